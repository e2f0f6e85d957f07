import PyProof.Rows.All
import KE.KFind
import KE.KLam
import KE.KTryMore
import KE.LcSums
import KE.KRevSl
import Lean
import PyProof.DictCompW
import PyProof.DictTable
import PyProof.IsRules
import PyProof.SetKind
import PyProof.TupleKey
import PySem.SetTable
import PyProof.EnumMake
import PyProof.WalksEnum
import PyProof.Rows.SetFrom
import PyProof.SetRoads
import PySem.Challenge.RW_matefloors_k11_turned_and_mirrored
set_option Elab.async false
set_option linter.all false
set_option maxRecDepth 100000
set_option maxHeartbeats 4000000
set_option genSizeOf false
set_option compiler.extract_closed false
set_option bootstrap.genMatcherCode false
local macro_rules|`(‹$q›)=>`({nx:=fun _ y=>$q (.v .none) y,rt:=$q})
set_option genInjectivity false
local macro_rules | `(⋯) => `((by decide))
local macro_rules | `(∅) => `((by omega))
local macro_rules | `(nofun) => `((by decide +kernel))
local macro_rules | `(⟨⟩) => `((by kernel_rfl))
local macro_rules | `(tactic| walk_at "s") => `(tactic| exact ⟨rfl, rfl, rfl, by decide +kernel, rfl, by decide +kernel, by decide +kernel⟩)
local macro_rules | `(tactic| walk_at "b") => `(tactic| (intro _ _ _ _ _ _ us hl; first | exact (match us, hl with | [], _ => rfl) | exact (match us, hl with | [_], _ => rfl) | exact (match us, hl with | [_, _], _ => rfl) | exact (match us, hl with | [_, _, _], _ => rfl) | exact (match us, hl with | [_, _, _, _], _ => rfl) | exact (match us, hl with | [_, _, _, _, _], _ => rfl)))
open PySem.W (fnOf nsIn codeIn keepIn kitOne kia_one mg_of mg_none_of)
open List (map_append map_map map_id mem_append_left filterMap_cons mem_cons_self mem_cons_of_mem mem_append_right append_nil length_take getElem?_append_right getElem?_append_left getElem?_map mem_of_getElem? length_append length_map size_toArray replicate_succ flatten_cons append_assoc map_nil map_cons length_cons getElem_mem getElem?_eq_none mem_append mem_cons getElem?_eq_getElem mem_singleton length_nil mem_map flatMap_cons pairwise_map mem_map_of_mem not_mem_nil lookup_cons take_length cons_append take_zero flatMap_append take_succ all_map getD_eq_getElem?_getD)
open Int (natAbs_mul le_of_lt mul_nonneg)
open Nat (lt_of_lt_of_le le_add_right ne_of_lt lt_irrefl le_trans le_refl pow_succ zero_le le_of_lt_succ lt_or_ge not_lt_zero mul_le_mul lt_or_eq_of_le lt_succ_of_lt)
open Bool (false_eq_true and_eq_true xor_false false_xor)
open PySem.F (plainAttrs_list)
open Option (bind_some map_some join_some)
open PySem (mem_of_lookup)
namespace L2
open PySem PySem.W
noncomputable def mf:Sem Fin->Bool
 |.choose ..=>false
 |.os ..=>false
 |_=>true
theorem OD{den:Code->Sem Fin}{p:Program}{w:World}{os:OsState}{s s':Shared}{t t':Thread}(h:mf t.cur=true)(e:step den p ⟨fun _ _=>0,w.params⟩ s t = .go s' t') :
  step den p w {s with os:=os} t = .go {s' with os:=os} t':=by
 obtain⟨heap,gens,drawn,toks,os0⟩:=s
 obtain⟨cur,code,pos,stack⟩:=t
 cases cur<;>simp only[step,finish,mf] at e h ⊢<;>(try (cases h;done))<;>(repeat' split at e)<;>simp_all<;>(try (obtain⟨rfl,rfl⟩:=e;simp_all))<;>(try (obtain⟨h1,h2⟩:=e;subst h1;rfl))
noncomputable def sV(tb:String->Option Builtin)(p:Program)(P:Params)(ln:Nat)(ann:Option Value):Nat->Shared->Thread->Option Shared
 |0,_,_=>none
 |n+1,s,t=>match through t with
  |true=>some s
  |false=>match stepOk ln ann t&&mf t.cur with
   |false=>none
   |true=>match step (denote tb) p ⟨fun _ _=>0,P⟩ s t with
    |.go s' t'=>sV tb p P ln ann n s' t'
    |.halt _ _=>none
theorem xY{tb:String->Option Builtin}{p:Program}{w:World}{ln:Nat}{ann:Option Value}{os:OsState}:∀{n:Nat} {s s':Shared} {t:Thread},sV tb p w.params ln ann n s t=some s'->topRun tb p w ln ann n {s with os:=os} t=some {s' with os:=os}
 |0,_,_,_,h=>by cases h
 |n+1,s,s',t,h=>by
  unfold sV at h
  unfold topRun
  cases ht:through t with
  |true=>rw[ht] at h;cases h;rfl
  |false=>
   rw[ht] at h
   cases hk:(stepOk ln ann t&&mf t.cur) with
   |false=>rw[hk] at h;cases h
   |true=>
    rw[hk] at h
    obtain⟨k1,k2⟩:=Bool.and_eq_true_iff.mp hk
    cases hs:step (denote tb) p ⟨fun _ _=>0,w.params⟩ s t with
    |halt o gl=>rw[hs] at h;cases h
    |go gl v4=>
     rw[hs] at h
     rw[k1,OD (os:=os) k2 hs]
     exact xY h
noncomputable def xh(p:Program)(P:Params)(ln:Nat)(ann:Option Value):Nat->Shared->Thread->Option Shared
 |0,_,_=>none
 |n+1,s,t=>match through t with
  |true=>some s
  |false=>match Fast.tw6613529449190102663 ln ann t&&mf t.cur with
   |false=>none
   |true=>match Fast.tw8437177126325714943 (Fast.tw11892475500146522536 Fast.tw14364793385576792824) p ⟨fun _ _=>0,P⟩ s t with
    |.go s' t'=>xh p P ln ann n s' t'
    |.halt _ _=>none
theorem yS{p:Program}{P:Params}{ln:Nat}{ann:Option Value}:∀(n:Nat) (s:Shared) (t:Thread),xh p P ln ann n s t=sV treeTable p P ln ann n s t
 |0,_,_=>rfl
 |n+1,s,t=>by
  unfold xh sV
  rw[<- Fast.te6613529449190102663,<- Fast.te8437177126325714943,<- Fast.te11892475500146522536,<- Fast.te14364793385576792824]
  cases through t with
  |true=>rfl
  |false=>
   cases (stepOk ln ann t&&mf t.cur) with
   |false=>rfl
   |true=>
    cases step (denote treeTable) p ⟨fun _ _=>0,P⟩ s t with
    |halt o gl=>rfl
    |go gl v4=>exact yS n gl v4
end L2
namespace L2
open PySem
noncomputable def ky(s:Stmt):Arguments:=match s with
 |.FunctionDef _ a _ _ _ _ _ _ _ _=>a
 |_=>{posonlyargs:=[],args:=[],vararg:=none,kwonlyargs:=[],kw_defaults:=[],kwarg:=none,defaults:=[]}
noncomputable def jw(s:Stmt):List Stmt:=match s with
 |.FunctionDef _ _ b _ _ _ _ _ _ _=>b
 |_=>[]
noncomputable def ay(s:Stmt):Scope:=match s with
 |.FunctionDef _ _ _ _ _ _ sc _ _ _=>sc
 |_=>{kind:=.function,names:=[],isGenerator:=false,isCoroutine:=false}
end L2
namespace L2.DL
open PySem
noncomputable def Mn:List Str:=["law","_law_is_right","_law_is_put","_law_are_refused","_law_is_told","_law_said","_law_is_plan_told"]
noncomputable def dZ(o:Obj):Option (Addr×Str):=match o.cls,o.data with
 |.type c,.fields vs=>if c = "code" then (match vs[1]?,vs[7]?,vs[9]?,vs[10]?,vs[11]?,vs[18]? with
  |some (Value.str q _),some (Value.int _ _),some (Value.bool _),some (Value.int _ _),some (Value.ref P),some (Value.str _ _)=>if Mn.contains q=true then some (P,q) else none
  |_,_,_,_,_,_=>none) else none
 |_,_=>none
end L2.DL
namespace K11
open PySem L2
noncomputable def top(i:Nat):Stmt:=PySem.Challenge.pw_matefloors_k11_turned_and_mirrored.main.body.getD i (.Pass ⟨0,0,0,0⟩)
noncomputable abbrev hZ:Stmt:=top 6
noncomputable abbrev cJ:Stmt:=top 7
noncomputable abbrev fT:Stmt:=top 8
noncomputable abbrev cE:Stmt:=top 9
noncomputable abbrev mj:Stmt:=top 10
noncomputable abbrev vf:Stmt:=top 11
noncomputable abbrev vG:Stmt:=top 12
noncomputable abbrev jB:Stmt:=top 13
noncomputable abbrev cT:Stmt:=top 14
noncomputable abbrev g0:Stmt:=top 15
noncomputable abbrev cj:Stmt:=top 16
noncomputable abbrev jD:Stmt:=top 19
noncomputable abbrev gW:Stmt:=top 20
noncomputable abbrev fN:Stmt:=top 21
noncomputable abbrev dQ:Stmt:=top 22
noncomputable abbrev di:Stmt:=top 23
noncomputable abbrev df:Stmt:=top 24
noncomputable abbrev dM:Stmt:=top 25
noncomputable abbrev fV:Stmt:=top 26
noncomputable abbrev cC:Stmt:=top 27
noncomputable abbrev lF:Stmt:=top 29
noncomputable abbrev dG:Stmt:=top 30
noncomputable abbrev gX:Stmt:=top 31
noncomputable abbrev cQ:Stmt:=top 32
noncomputable abbrev fU:Stmt:=top 34
noncomputable abbrev fY:Stmt:=top 35
noncomputable abbrev il:Stmt:=top 36
noncomputable abbrev dJ:Stmt:=top 37
noncomputable abbrev eI:Stmt:=top 38
noncomputable abbrev hU:Stmt:=top 39
noncomputable abbrev fR:Stmt:=top 40
noncomputable abbrev fS:Stmt:=top 41
noncomputable abbrev dH:Stmt:=top 42
noncomputable abbrev cU:Stmt:=top 43
noncomputable abbrev eA:Stmt:=top 44
noncomputable abbrev fM:Stmt:=top 45
noncomputable abbrev eC:Stmt:=top 46
noncomputable abbrev fH:Stmt:=top 47
noncomputable abbrev fX:Stmt:=top 48
noncomputable abbrev eK:Stmt:=top 49
noncomputable abbrev cg:Stmt:=top 50
noncomputable abbrev dI:Stmt:=top 51
noncomputable abbrev fW:Stmt:=top 52
noncomputable abbrev bG:Stmt:=top 53
noncomputable abbrev cI:Stmt:=top 54
noncomputable abbrev cP:Stmt:=top 55
noncomputable abbrev cD:Stmt:=top 56
noncomputable abbrev cR:Stmt:=top 57
noncomputable abbrev dg:Stmt:=top 58
noncomputable abbrev dR:Stmt:=top 59
noncomputable abbrev eG:Stmt:=top 60
noncomputable abbrev dj:Stmt:=top 61
noncomputable abbrev eO:Stmt:=top 62
noncomputable abbrev bZ:Stmt:=top 63
noncomputable abbrev qu:Stmt:=top 64
noncomputable abbrev fd(n:Str)(s:Stmt)(tk:Tok)(m:Str)(cd:Addr):FuncData:=fnOf n n (ky s) (jw s) (ay s) .none .none .none (.str m tk) none (.ref cd) .none
noncomputable abbrev FQ(K:PySem.W.Frag)(n:Str)(s:Stmt)(a cd:Addr)(tk:Tok)(m:Str):Prop:=nsIn K mainGlobals n=some (some (.ref a))/\K.lookup a=some ⟨.type "function",none,.func (fd n s tk m cd),#[]⟩/\codeIn K (.ref cd) n=true/\keepIn K (.ref a)=true
end K11
namespace K11.H
open PySem PySem.W PyProof.Rows L2 L2.DL
set_option maxHeartbeats 0
noncomputable abbrev R:OpenLaw:=PySem.Challenge.rw_matefloors_k11_turned_and_mirrored
noncomputable abbrev LO:List Str:=["has_form","has_form_layings","has_form_plans"]
noncomputable def sT(P:Params):Option Shared:=xh R.row.prog P 11 (some (.ref 6)) 20000 {heap:=boot_heap P,gens:=#[],drawn:=boot_drawn,toks:=boot_toks,os:=default} (topStub R.row.prog)
noncomputable def defName:Stmt->Str
 |.FunctionDef n _ _ _ _ _ _ _ _ _=>n
 |_=>Str.empty
noncomputable def IC:Stmt->Int
 |.FunctionDef _ _ _ _ _ _ _ _ _ p=>Int.ofNat p.line
 |_=>0
noncomputable def cn(o:Obj)(r:List Obj):List Obj:=o::r
noncomputable def g(P:Params)(x:Str)(t:Nat)(v:Value):DictEntry:=⟨PyData.keyHash P x,.str x t,v⟩
noncomputable def gf(P:Params)(i t a:Nat):DictEntry:=g P (defName (top i)) t (.ref a)
noncomputable def tb:List (Int×Nat)->List Value
 |[]=>[]
 |(a,b)::l=>.int a 0::.int 0 0::.ref b::tb l
noncomputable def tu(l:List Value):Obj:=⟨.type "tuple",none,.seq l.toArray 0,#[]⟩
noncomputable def nf:Obj:=⟨.none,none,.fields #[],#[]⟩
noncomputable def dp(s:Stmt):List Str:=(ky s).args.map (·.arg)
noncomputable def fd(s:Stmt)(a:Addr)(p c:Value):Data:=.func {name:=defName s,qualname:=defName s,params:=ky s,body:=.stmts (jw s),scope:=ay s,globals:=a,closure:=[],defaults:=.none,kwdefaults:=.none,pyModule:=p,code:=c}
noncomputable def co(s:Stmt)(a t u:Nat)(x y:Value)(d:Nat):Obj:=⟨.type "code",none,.fields #[.str (defName s) t,.str (defName s) (t+1),.str "/claim/cut.py" (t+2),.int (IC s) 0,.int (Int.ofNat (dp s).length) 0,.int 0 0,.int 0 0,.int 3 0,.ref a,.bool true,.int 181 0,.ref (a+1),.none,x,y,.ref (a+d),.int (Int.ofNat u) 0,.int (IC s) 0,.str "/claim/cut.py" (u+1)],#[]⟩
noncomputable def nv:Nat->List Str->List Value
 |_,[]=>[]
 |t,x::l=>.str x t::nv (t+1) l
noncomputable def fB(i a t:Nat)(l:List Str)(p:Value)(r:List Obj):List Obj:=tu []::nf::tu (nv (t+3) (dp (top i)++l))::tu []::⟨.none,none,fd (top i) 0 .none .none,#[]⟩::co (top i) a t (t+3+(dp (top i)++l).length) (.ref (a+2)) (.ref (a+3)) 4::⟨.type "function",none,fd (top i) 3 p (.ref (a+5)),#[]⟩::r
noncomputable def fL(i a t:Nat)(p:Value)(r:List Obj):List Obj:=tu []::nf::⟨.none,none,fd (top i) 0 .none .none,#[]⟩::co (top i) a t (t+3) .none .none 2::⟨.type "function",none,fd (top i) 3 p (.ref (a+3)),#[]⟩::r
noncomputable def me:Value:=.str "matefloors.errors" 187
noncomputable def cB(P:Params)(x:Str)(i t:Nat)(n:Int)(r:List Obj):List Obj:=tu [.ref 24]::⟨.type "builtin_function_or_method",none,.fields #[.builtin "type.__prepare__",.type "type"],#[]⟩::⟨.type "dict",none,.dict #[g P "__module__" (t+5) me,g P "__qualname__" (t+7) (.str x (t+6)),g P "__firstlineno__" (t+9) (.int n (t+8)),g P "__static_attributes__" (t+10) (.ref (i+7))] 4,#[]⟩::tu []::nf::⟨.type "code",none,.fields #[.str x t,.str x (t+1),.str "/claim/cut.py" (t+2),.int n 0,.int 0 0,.int 0 0,.int 0 0,.int 0 0,.ref (i+3),.bool false,.int 181 0,.ref (i+4),.none,.none,.none,.none,.int (Int.ofNat (t+3)) 0,.int n 0,.str "/claim/cut.py" (t+4)],#[]⟩::⟨.type "frame",none,.plain,#[some (.ref (i+5)),some (.ref 3),some (.ref (i+2)),none,some me,none,some (.ref 0)]⟩::tu []::⟨.type "dict",none,.dict #[g P "__module__" (t+5) me,g P "__firstlineno__" (t+9) (.int n (t+8)),g P "__static_attributes__" (t+10) (.ref (i+7)),g P "__doc__" (t+11) .none] 2,#[]⟩::⟨.type "type",none,.cls ⟨x,[.ref 24],[.ref (i+9),.ref 24,.type "ValueError",.type "Exception",.type "BaseException",.type "object"],i+8,x,true,[],[],false,none,false⟩,#[some (.ref i),none,some (.str x (t-2)),some (.str x (t+6)),some (.builtin "ValueError.__new__"),some (.bool true)]⟩::⟨.type "super",none,.fields #[.ref (i+9),.ref (i+9),.ref (i+9)],#[]⟩::⟨.type "builtin_function_or_method",none,.fields #[.builtin "object.__init_subclass__",.ref (i+9)],#[]⟩::r
noncomputable def m0:Value:=.str "matefloors.numbers" 239
noncomputable def m1:Value:=.str "matefloors.layings" 342
noncomputable def m2:Value:=.str "matefloors.moving" 426
noncomputable def m3:Value:=.str "law_matefloors_k11_turned_and_mirrored" 464
noncomputable def ho0(P:Params)(r:List Obj):List Obj:=cn (boot_o_0 P) <| cn (boot_o_1 P) <| cn (boot_o_2 P) <| cn (⟨.type "dict",none,.dict #[g P "__name__" 165 (.str "law_matefloors_k11_turned_and_mirrored" 464),g P "__doc__" 166 .none,g P "__package__" 167 .none,g P "__loader__" 168 (.builtin "__main__.__loader__#opaque"),g P "__spec__" 169 .none,g P "__annotations__" 170 (.ref 6),g P "__builtins__" 171 (.ref 4),g P "__file__" 173 (.str "/claim/cut.py" 172),g P "__cached__" 174 .none,g P "FloorError" 206 (.ref 24),g P "NoNumber" 222 (.ref 37),g P "NoLaying" 238 (.ref 49),g P "NOUGHT" 244 (.ref 52),gf P 6 251 59,gf P 7 259 66,gf P 8 269 73,gf P 9 278 80,gf P 10 288 87,gf P 11 296 94,gf P 12 304 101,gf P 13 312 108,gf P 14 322 115,gf P 15 333 122,gf P 16 341 129,g P "MOST_TILES" 345 (.int 60 344),gf P 19 357 136,gf P 20 363 141,gf P 21 374 148,gf P 22 386 155,gf P 23 397 162,gf P 24 405 169,gf P 25 411 174,gf P 26 417 179,gf P 27 425 186,gf P 29 433 191,gf P 30 445 198,gf P 31 451 203,gf P 32 463 210,gf P 34 473 217,gf P 35 481 224,gf P 36 491 231,gf P 37 499 238,gf P 38 506 245,gf P 39 518 252,gf P 40 524 257,gf P 41 533 264,gf P 42 544 271,gf P 43 550 276,gf P 44 570 283,gf P 45 579 290,gf P 46 585 295,gf P 47 596 302,gf P 48 607 309,gf P 49 613 314,gf P 50 621 321,gf P 51 638 328,gf P 52 649 335,gf P 53 655 340,gf P 54 661 345,gf P 55 669 352,gf P 56 675 357,gf P 57 682 364,gf P 58 688 369,gf P 59 694 374,gf P 60 700 379,gf P 61 713 386,gf P 62 722 393,gf P 63 728 398,gf P 64 742 405] 69,#[]⟩) <| cn (boot_o_4 P) <| cn (boot_o_5 P) <| cn (boot_o_6 P) <| cn (boot_o_7 P) <| cn (boot_o_8 P) <| cn (boot_o_9 P) <| cn (boot_o_10 P) <| cn (⟨(.type "tuple"),none,(.seq #[] 0),#[]⟩) <| cn (⟨.none,none,.fields (tb [(2,20),(4,33),(6,45),(10,58),(12,65),(16,72),(23,79),(25,86),(32,93),(34,100),(36,107),(38,114),(47,121),(51,128),(55,135),(62,140),(71,147),(74,154),(84,161),(91,168),(93,173),(104,178),(112,185),(116,190),(120,197),(123,202),(127,209),(131,216),(133,223),(135,230),(138,237),(143,244),(145,251),(155,256),(160,263),(167,270),(173,275),(179,282),(186,289),(191,294),(196,301),(206,308),(212,313),(215,320),(222,327),(235,334),(240,339),(243,344),(252,351),(254,356),(258,363),(260,368),(266,373),(279,378),(290,385),(303,392),(305,397),(308,404)]).toArray,#[]⟩) <| cn (⟨(.type "code"),none,(.fields #[(.str "<module>" 182),(.str "<module>" 183),(.str "/claim/cut.py" 184),(.int 1 0),(.int 0 0),(.int 0 0),(.int 0 0),(.int 0 0),(.ref 11),(.bool false),(.int 181 0),(.ref 12),.none,.none,.none,.none,(.int 185 0),(.int 1 0),(.str "/claim/cut.py" 186)]),#[]⟩) <| cn (⟨(.type "frame"),none,.plain,#[some (.ref 13),some (.ref 3),some (.ref 3),none,some (.str "__main__" 164),none,some (.ref 0)]⟩) <| cn (⟨(.type "tuple"),none,(.seq #[(.type "ValueError")] 0),#[]⟩) <| cn (⟨(.type "builtin_function_or_method"),none,(.fields #[(.builtin "type.__prepare__"),(.type "type")]),#[]⟩) <| cn (⟨(.type "dict"),none,(.dict #[⟨PyData.keyHash P "__module__",(.str "__module__" 196),(.str "matefloors.errors" 187)⟩,⟨PyData.keyHash P "__qualname__",(.str "__qualname__" 198),(.str "FloorError" 197)⟩,⟨PyData.keyHash P "__firstlineno__",(.str "__firstlineno__" 200),(.int 2 199)⟩,⟨PyData.keyHash P "__static_attributes__",(.str "__static_attributes__" 201),(.ref 22)⟩] 4),#[]⟩) <| cn (⟨(.type "tuple"),none,(.seq #[] 0),#[]⟩) <| cn (⟨.none,none,(.fields #[]),#[]⟩) <| r
noncomputable def ho1(P:Params)(r:List Obj):List Obj:=cn (⟨(.type "code"),none,(.fields #[(.str "FloorError" 191),(.str "FloorError" 192),(.str "/claim/cut.py" 193),(.int 2 0),(.int 0 0),(.int 0 0),(.int 0 0),(.int 0 0),(.ref 18),(.bool false),(.int 181 0),(.ref 19),.none,.none,.none,.none,(.int 194 0),(.int 2 0),(.str "/claim/cut.py" 195)]),#[]⟩) <| cn (⟨(.type "frame"),none,.plain,#[some (.ref 20),some (.ref 3),some (.ref 17),none,some (.str "matefloors.errors" 187),none,some (.ref 0)]⟩) <| cn (⟨(.type "tuple"),none,(.seq #[] 0),#[]⟩) <| cn (⟨(.type "dict"),none,(.dict #[⟨PyData.keyHash P "__module__",(.str "__module__" 196),(.str "matefloors.errors" 187)⟩,⟨PyData.keyHash P "__firstlineno__",(.str "__firstlineno__" 200),(.int 2 199)⟩,⟨PyData.keyHash P "__static_attributes__",(.str "__static_attributes__" 201),(.ref 22)⟩,⟨PyData.keyHash P "__weakref__",(.str "__weakref__" 203),(.ref 25)⟩,⟨PyData.keyHash P "__doc__",(.str "__doc__" 204),.none⟩] 3),#[]⟩) <| cn (⟨(.type "type"),none,(.cls ⟨"FloorError",[(.type "ValueError")],[(.ref 24),(.type "ValueError"),(.type "Exception"),(.type "BaseException"),(.type "object")],23,"FloorError",true,[],[(.ref 37),(.ref 49)],false,none,false⟩),#[some (.ref 15),none,some (.str "FloorError" 189),some (.str "FloorError" 197),some (.builtin "ValueError.__new__"),some (.bool true)]⟩) <| cn (⟨(.type "getset_descriptor"),none,(.fields #[(.str "__weakref__" 202),(.ref 24),(.builtin "ExceptionGroup.__weakref__"),.none]),#[]⟩) <| cn (⟨(.type "super"),none,(.fields #[(.ref 24),(.ref 24),(.ref 24)]),#[]⟩) <| cn (⟨(.type "builtin_function_or_method"),none,(.fields #[(.builtin "object.__init_subclass__"),(.ref 24)]),#[]⟩) <| cB P "NoNumber" 28 209 4 <| cB P "NoLaying" 40 225 6 <| cn (⟨(.type "tuple"),none,(.seq #[(.int 0 241),(.int 0 242),(.int 1 243)] 0),#[]⟩) <| fB 6 53 245 [] m0 <| fB 7 60 252 [] m0 <| fB 8 67 260 ["a","b","c"] m0 <| fB 9 74 270 [] m0 <| fB 10 81 279 ["divisor"] m0 <| fB 11 88 289 [] m0 <| fB 12 95 297 [] m0 <| fB 13 102 305 [] m0 <| fB 14 109 313 ["prevailing"] m0 <| r
noncomputable def ho2(P:Params)(r:List Obj):List Obj:=fB 15 116 323 ["a","b"] m0 <| fB 16 123 334 [] m0 <| fB 19 130 346 ["x","y","width","height"] m1 <| fL 20 137 358 m1 <| fB 21 142 364 ["x","y","width","height"] m1 <| fB 22 149 375 ["low","high","middle"] m1 <| fB 23 156 387 ["marks","x","place"] m1 <| fB 24 163 398 [] m1 <| fL 25 170 406 m1 <| fL 26 175 412 m1 <| fB 27 180 418 [] m1 <| fL 29 187 428 m2 <| fB 30 192 434 ["x","y","width","height"] m2 <| fL 31 199 446 m2 <| fB 32 204 452 ["x","y","width","height"] m2 <| fB 34 211 466 [] m3 <| fB 35 218 474 [] m3 <| fB 36 225 482 ["_law_common"] m3 <| fB 37 232 492 [] m3 <| fB 38 239 500 [] m3 <| r
noncomputable def ho3(P:Params)(r:List Obj):List Obj:=fB 39 246 507 ["_law_cell","_law_great","_law_primes","_law_mixed_here"] m3 <| fL 40 253 519 m3 <| fB 41 258 525 ["_law_digit"] m3 <| fB 42 265 534 ["_law_columns","_law_rows","_law_blocks_here"] m3 <| fL 43 272 545 m3 <| fB 44 277 551 ["_law_xs","_law_ys","_law_tiles","_law_column","_law_row","_law_wide","_law_high","_law_width","_law_height"] m3 <| fB 45 284 571 ["_law_found","_law_side_here"] m3 <| fL 46 291 580 m3 <| fB 47 296 586 ["_law_x","_law_sign_here"] m3 <| fB 48 303 597 ["_law_first","_law_second","_law_sides_here"] m3 <| fL 49 310 608 m3 <| fB 50 315 614 ["_law_draw"] m3 <| fB 51 322 622 ["_law_met","_law_found","_law_most","_law_row","_law_column","_law_wide","_law_high","_law_k"] m3 <| fB 52 329 639 ["_law_found"] m3 <| fL 53 336 650 m3 <| fL 54 341 656 m3 <| fB 55 346 662 [] m3 <| fL 56 353 670 m3 <| fB 57 358 676 [] m3 <| fL 58 365 683 m3 <| r
noncomputable def ho4(P:Params)(r:List Obj):List Obj:=fL 59 370 689 m3 <| fL 60 375 695 m3 <| fB 61 380 701 ["_law_found","_law_one","_law_low_here","_law_high","_law_middle"] m3 <| fB 62 387 714 [] m3 <| fL 63 394 723 m3 <| fB 64 399 729 ["_law_k","_law_bag_here","_law_d","_law_laying_here","_law_row","_law_turn","_law_other"] m3 <| r
noncomputable def hT(P:Params):Heap:=⟨⟨ho0 P <| ho1 P <| ho2 P <| ho3 P <| ho4 P []⟩,(boot_heap P).life⟩
noncomputable abbrev mz0:Str:="matefloors.numbers"
noncomputable abbrev mz1:Str:="matefloors.layings"
noncomputable abbrev mz2:Str:="matefloors.moving"
noncomputable abbrev mz3:Str:="law_matefloors_k11_turned_and_mirrored"
noncomputable def isNm:Stmt->Bool
 |.Assign [.Name x _] _ _=>x == "__name__"
 |_=>false
noncomputable def V:Program:={R.row.prog with main:={R.row.prog.main with body:=R.row.prog.main.body.filter fun s=>!isNm s}}
noncomputable def as:List Addr:=[3,59,58,66,65,73,72,80,79,87,86,94,93,101,100,108,107,115,114,122,121,129,128,136,135,141,140,148,147,155,154,162,161,169,168,174,173,179,178,186,185,191,190,198,197,203,202,210,209,217,216,224,223,231,230,238,237,245,244,252,251,257,256,264,263,271,270,276,275,283,282,290,289,295,294,302,301,309,308,314,313,321,320,328,327,335,334,340,339,345,344,352,351,357,356,364,363,369,368,374,373,379,378,386,385,393,392,398,397,405,404,52]
noncomputable def tabs:List Addr:=[400]
noncomputable def K(P:Params):Frag:=as.map fun a=>(a,((hT P).get? a).getD default)
noncomputable def TF(P:Params):Frag:=tabs.map fun a=>(a,((hT P).get? a).getD default)
noncomputable def KF(P:Params):Frag:=K P++TF P
theorem kAs(P:Params):as++tabs=(KF P).map (·.1):=by
 unfold KF K TF
 rw[map_append,map_map,map_map]
 exact congr (congrArg HAppend.hAppend (map_id _).symm) (map_id _).symm
noncomputable def HK:Hook:=kHook KF (as++tabs) kAs
noncomputable def posOf:Stmt->Pos
 |.FunctionDef _ _ _ _ _ _ _ _ _ p=>p
 |_=>⟨0,0,0,0⟩
noncomputable def D:DefRec:=⟨"law",ky K11.qu,jw K11.qu,ay K11.qu,posOf K11.qu⟩
noncomputable def Xt:Shared->Bool:=fun s=>xlAt V [] s&&recOk R.row.records s
theorem runC(P:Params):(sT P).map (fun s=>(s.heap,s.gens,s.drawn,s.toks))=some (hT P,#[],{},743):=⟨⟩
theorem Sn{A B C D:Type}{a a':A}{b b':B}{c c':C}{d d':D}(h:(a,b,c,d)=(a',b',c',d')):a=a'/\b=b'/\c=c'/\d=d':=by
 cases h;exact⟨rfl,rfl,rfl,rfl⟩
theorem run(w:World)(os:OsState):topRun treeTable R.row.prog w 11 (some (.ref 6)) 20000 {heap:=boot_heap w.params,gens:=#[],drawn:=boot_drawn,toks:=boot_toks,os:=os} (topStub R.row.prog)=some {heap:=hT w.params,gens:=#[],drawn:={},toks:=743,os:=os}:=by
 have h:=runC w.params
 cases e:sT w.params with
 |none=>rw[e] at h;cases h
 |some s=>
  rw[e] at h
  obtain⟨heap,gens,drawn,toks,os0⟩:=s
  have h':some (heap,gens,drawn,toks)=some (hT w.params,(#[]:Array GenState),({}:Drawn),743):=h
  obtain⟨rfl,rfl,rfl,rfl⟩:=Sn (Option.some.inj h')
  exact xY (w:=w) (os:=os) ((yS _ _ _).symm.trans e)
theorem QU(w:World)(os:OsState):(staticsOk (importedModules R.row.prog.main.body) (boot_heap w.params) (hT w.params)&&namesBound R.row.prog (hT w.params)&&gensDone {heap:=hT w.params,gens:=#[],drawn:={},toks:=743,os:=os}&&laidKept (boot_heap w.params) (hT w.params))=true:=⟨⟩
theorem Pt(w:World)(os:OsState):seen (List.map (fun x=>x.name) (recsOf V)) (ownsOf V) [] {heap:=hT w.params,drawn:={},toks:=743,os:=os} = expectedOf V:=⟨⟩
theorem Qj(w:World)(os:OsState):(hT w.params).bltView=bltViewBooted:=⟨⟩
theorem Px(w:World)(os:OsState):((hT w.params).keysOk (looseW V LO) (List.map (fun x=>x.name) (recsOf V)) (List.map (fun x=>x.fst) (litsOf V)) (List.map (fun x=>x.name) (clssOf V (looseW V LO)))&&(hT w.params).accountedOkI (importedModules R.row.prog.main.body)&&(hT w.params).isNs mainGlobals&&(hT w.params).isNs builtinsNs&&tablesOk V (hT w.params)&&Xt {heap:=hT w.params,gens:=#[],drawn:={},toks:=743,os:=os}&&(if true=true then (#[]:Array GenState).size==0 else !leftWithCleanup (#[]:Array GenState)))=true:=⟨⟩
theorem OL(w:World)(os:OsState):tabsOk V {heap:=hT w.params,gens:=#[],drawn:={},toks:=743,os:=os} = true:=⟨⟩
theorem Po(w:World)(os:OsState):pinSeenD V (drecsOf V) {heap:=hT w.params,gens:=#[],drawn:={},toks:=743,os:=os} = pinGoodD (drecsOf V):=⟨⟩
theorem Ph(w:World)(os:OsState):plainSeenE V (looseW V LO) {heap:=hT w.params,gens:=#[],drawn:={},toks:=743,os:=os} = plainGoodE V (looseW V LO):=⟨⟩
theorem Qg(w:World)(os:OsState):plainSeenD V LO {heap:=hT w.params,gens:=#[],drawn:={},toks:=743,os:=os} = plainGoodD V LO:=⟨⟩
theorem O3(w:World)(os:OsState):wideSeen V {heap:=hT w.params,gens:=#[],drawn:={},toks:=743,os:=os} = wideGood V:=⟨⟩
theorem OU(w:World)(os:OsState):clsSeenW V LO {heap:=hT w.params,gens:=#[],drawn:={},toks:=743,os:=os} = clsGoodW V LO:=⟨⟩
theorem Q8{A B C D E F G H I:Type}{a a':A}{b b':B}{c c':C}{d d':D}{e e':E}{f f':F}{g g':G}{h h':H}{i i':I}(h0:a=a')(h1:b=b')(h2:c=c')(h3:d=d')(h4:e=e')(h5:f=f')(h6:g=g')(h7:h=h')(h8:i=i'):(a,b,c,d,e,f,g,h,i)=(a',b',c',d',e',f',g',h',i'):=by
 rw[h0,h1,h2,h3,h4,h5,h6,h7,h8]
theorem Rk(w:World)(os:OsState):openSeen V LO (importedModules R.row.prog.main.body) Xt true {heap:=hT w.params,gens:=#[],drawn:={},toks:=743,os:=os} = openGood V LO:=Q8 (Pt w os) (Qj w os) (Px w os) (OL w os) (Po w os) (Ph w os) (Qg w os) (O3 w os) (OU w os)
theorem RB(w:World)(os:OsState):HK.obs {heap:=hT w.params,gens:=#[],drawn:={},toks:=743,os:=os} = HK.val w:=⟨⟩
theorem seen(w:World):(fun os=>(staticsOk (importedModules R.row.prog.main.body) (boot_heap w.params) (hT w.params)&&namesBound R.row.prog (hT w.params)&&gensDone {heap:=hT w.params,gens:=#[],drawn:={},toks:=743,os:=os}&&laidKept (boot_heap w.params) (hT w.params),
  openSeen V LO (importedModules R.row.prog.main.body) Xt true {heap:=hT w.params,gens:=#[],drawn:={},toks:=743,os:=os},HK.obs {heap:=hT w.params,gens:=#[],drawn:={},toks:=743,os:=os}))=fun _:OsState=>(true,openGood V LO,HK.val w):=
 funext fun os=>Prod.ext (QU w os) (Prod.ext (Rk w os) (RB w os))
theorem lkb{a b:Bool}(x:a=true)(y:b=true):(a&&b)=true:=by rw[x,y];rfl
theorem wsA:(sreFenced R.row.prog.main&&((moduleNames R.row.prog.main.body).isEmpty || lookedIntoSs (moduleNames R.row.prog.main.body) R.row.prog.main.body))=true:=⟨⟩
theorem wsB:namesResolve R.row.prog=true:=⟨⟩
theorem wsC:R.row.prog.boundNames.all (fun n=>!worldNames.contains n)=true:=⟨⟩
theorem wsD:noRoadLSs {strict:=!(importedModules R.row.prog.main.body).all cThrough.contains,foot:=none,bare:=(["vars","dir","locals"]:List Str).filter (readsOut R.row.prog R.row.prog.main.body)} R.row.prog.main.body=true:=⟨⟩
theorem wsE:(namesMeet R.row.prog R.row.prog.main.body fun _ n=>attrL n)=true:=⟨⟩
theorem wsF:looksOpen R.row.prog=true:=lkb (lkb (lkb (lkb wsA wsB) wsC) wsD) wsE
theorem wsG:R.row.wellSaid=true:=by
 unfold OpenRow.wellSaid OpenRow.partSaid
 rw[wsF]
 kernel_rfl
theorem wsH:noClassBlock R.prog R.footing=true:=⟨⟩
theorem wsI:noRoadLSs {strict:=true,foot:=some R.bound',writes:=R.writes,may:=R.may} R.footing=true:=⟨⟩
theorem wsJ:R.namesIt=true:=⟨⟩
theorem wsK:R.bound'.all (fun n=>!builtinNamed n || R.about==[n] || !R.reads n)=true:=⟨⟩
theorem wsL:namesMeet R.prog R.footing (fun sc n=>(!(["type","isinstance","issubclass","getattr","hasattr"]:List Str).contains n || sc.names.lookup n==some .globalImplicit)&&(R.may != some n || sc.kind==.module || sc.names.lookup n==some .globalImplicit))=true:=⟨⟩
theorem wsM:namesMeet R.prog R.above (fun _ n=>!R.own.contains n)=true:=⟨⟩
theorem wsN:(namesMeet R.prog R.footing fun sc n=>sc.kind==.module || sc.names.lookup n != some .globalExplicit)=true:=⟨⟩
theorem ws:R.wellSaid=true:=by
 unfold OpenLaw.wellSaid
 rw[wsG,wsH,wsI,wsJ,wsK,wsL,wsM,wsN]
 kernel_rfl
theorem Qe(P:Params):FQ (K P) "is_whole" hZ 59 58 239 mz0/\FQ (K P) "common_divisor" cJ 66 65 239 mz0/\FQ (K P) "is_number" fT 73 72 239 mz0/\FQ (K P) "divisor_of_all" cE 80 79 239 mz0/\FQ (K P) "number" mj 87 86 239 mz0/\FQ (K P) "plus" vf 94 93 239 mz0/\FQ (K P) "less" vG 101 100 239 mz0/\FQ (K P) "sign_of" jB 108 107 239 mz0/\FQ (K P) "sign_of_parts" cT 115 114 239 mz0/\FQ (K P) "is_above" g0 122 121 239 mz0/\FQ (K P) "is_above_nought" cj 129 128 239 mz0/\FQ (K P) "is_tile" jD 136 135 342 mz1/\FQ (K P) "has_form" gW 141 140 342 mz1/\FQ (K P) "bounds_of" fN 148 147 342 mz1:=
 by (repeat' apply And.intro)<;>first|kernel_rfl|decide
theorem OS(P:Params):FQ (K P) "place_among" dQ 155 154 342 mz1/\FQ (K P) "rising_marks" di 162 161 342 mz1/\FQ (K P) "reaches_just" df 169 168 342 mz1/\FQ (K P) "covers_once" dM 174 173 342 mz1/\FQ (K P) "is_laying" fV 179 178 342 mz1/\FQ (K P) "must_be_laying" cC 186 185 342 mz1/\FQ (K P) "turned" lF 191 190 426 mz2/\FQ (K P) "turned_tile" dG 198 197 426 mz2/\FQ (K P) "mirrored" gX 203 202 426 mz2/\FQ (K P) "mirrored_tile" cQ 210 209 426 mz2/\FQ (K P) "_law_less" fU 217 216 464 mz3/\FQ (K P) "_law_plus" fY 224 223 464 mz3/\FQ (K P) "_law_low" il 231 230 464 mz3/\FQ (K P) "_law_shared" dJ 238 237 464 mz3:=
 by (repeat' apply And.intro)<;>first|kernel_rfl|decide
theorem Qc(P:Params):FQ (K P) "_law_minus" eI 245 244 464 mz3/\FQ (K P) "_law_bag" hU 252 251 464 mz3/\FQ (K P) "_law_root" fR 257 256 464 mz3/\FQ (K P) "_law_take" fS 264 263 464 mz3/\FQ (K P) "_law_laying" dH 271 270 464 mz3/\FQ (K P) "_law_pinwheel" cU 276 275 464 mz3/\FQ (K P) "_law_floor" eA 283 282 464 mz3/\FQ (K P) "_law_ends" fM 290 289 464 mz3/\FQ (K P) "_law_sides" eC 295 294 464 mz3/\FQ (K P) "_law_side" fH 302 301 464 mz3/\FQ (K P) "_law_sign" fX 309 308 464 mz3/\FQ (K P) "_law_mixed" eK 314 313 464 mz3/\FQ (K P) "_law_many_cells" cg 321 320 464 mz3/\FQ (K P) "_law_blocks" dI 328 327 464 mz3:=
 by (repeat' apply And.intro)<;>first|kernel_rfl|decide
theorem OV(P:Params):FQ (K P) "_law_room" fW 335 334 464 mz3/\FQ (K P) "_law_turned_laying" bG 340 339 464 mz3/\FQ (K P) "_law_is_laying" cI 345 344 464 mz3/\FQ (K P) "_law_is_above" cP 352 351 464 mz3/\FQ (K P) "_law_is_number" cD 357 356 464 mz3/\FQ (K P) "_law_is_whole" cR 364 363 464 mz3/\FQ (K P) "_law_is_tile" dg 369 368 464 mz3/\FQ (K P) "_law_covers" dR 374 373 464 mz3/\FQ (K P) "_law_spans" eG 379 378 464 mz3/\FQ (K P) "_law_ordered" dj 386 385 464 mz3/\FQ (K P) "_law_below" eO 393 392 464 mz3/\FQ (K P) "_law_left_right" bZ 398 397 464 mz3/\FQ (K P) "law" qu 405 404 464 mz3/\nsIn (K P) mainGlobals "isinstance"=some none:=
 by (repeat' apply And.intro)<;>first|kernel_rfl|decide
theorem OJ(P:Params):nsIn (K P) mainGlobals "int"=some none/\nsIn (K P) mainGlobals "bool"=some none/\nsIn (K P) mainGlobals "abs"=some none/\nsIn (K P) mainGlobals "tuple"=some none/\nsIn (K P) mainGlobals "len"=some none/\nsIn (K P) mainGlobals "all"=some none/\nsIn (K P) mainGlobals "set"=some none/\nsIn (K P) mainGlobals "range"=some none/\nsIn (K P) mainGlobals "enumerate"=some none/\nsIn (K P) mainGlobals "list"=some none/\nsIn (K P) mainGlobals "min"=some none/\nsIn (K P) mainGlobals "zip"=some none/\nsIn (K P) mainGlobals "max"=some none/\nsIn (K P) mainGlobals "MOST_TILES"=some (some (.int 60 344)):=
 by (repeat' apply And.intro)<;>first|kernel_rfl|decide
theorem Pg(P:Params):(nsIn (K P) mainGlobals "NOUGHT"=some (some (.ref 52))/\(K P).lookup 52=some ⟨.type "tuple",none,.seq #[.int 0 241,.int 0 242,.int 1 243] 0,#[]⟩):=
 by (repeat' apply And.intro)<;>first|kernel_rfl|decide
theorem NJ(P:Params):((K P).filterMap fun p=>dZ p.2)=[(400,("law":Str))]/\((K P).lookup 404).bind dZ=some (400,("law":Str))/\(KF P).lookup 400=some (tabObj #[])/\(K P).lookup 400=none:=⟨⟨⟩,⟨⟩,⟨⟩,⟨⟩⟩
theorem OW(P:Params):((K P).filterMap fun p=>dZ p.2)=[(400,("law":Str))]:=(NJ P).1
theorem Ke(P:Params):((K P).lookup 404).bind dZ=some (400,("law":Str)):=(NJ P).2.1
theorem QL{q2:Str}(h:((400:Addr),q2)∈([(400,("law":Str))]:List (Addr×Str))):q2 = "law":=by simpa using h
theorem IK(P:Params):(KF P).lookup 400=some (tabObj #[])/\(K P).lookup 400=none:=⟨(NJ P).2.2.1,(NJ P).2.2.2⟩
theorem left:LeftO R.row.prog V LO Xt HK.obs HK.val 20000:=
 LeftO.of_pieces (H₀:=boot_heap) (H₁:=hT) (gs₀:=#[]) (gs₁:=#[]) (d₀:=boot_drawn) (d₁:={}) (k₀:=boot_toks) (k₁:=743) (m₀:=11) (ann:=some (.ref 6)) (M:=20000)
  (boot_open ⟨⟩ ⟨⟩ (fun s=>⟨⟩)) (fun w=>⟨⟩) run ⟨⟩ seen
end K11.H
namespace L2
open PySem PySem.Spec PyProof.Rows
noncomputable def iH(A:Around)(h:Heap):Prop:=A.handled=none\/∃(e:Addr) (oe:Obj) (vs:Array Value),A.handled=some (.ref e)/\h.get? e=some oe/\oe.data = .fields vs/\vs[2]? = some .none
theorem zB:entryFor table "proto.unchain"=some Builtin.«proto.unchain»:=entryFor_of_tree ⟨⟩
section
variable {prog:Program}{w:World}{A:Around}{E:Value->Shared->Prop}{s:Shared}
theorem Df{x e:Addr}{oe:Obj}{vs:Array Value}{Q:Value->Shared->Prop}(he:s.heap.get? e=some oe)(hd:oe.data = .fields vs)(h2:vs[2]? = some .none)(h:Q .none s) :
  wpAny (model prog w) A (runValue (.builtin "proto.unchain" ⟨[.ref x,.ref e,.ref e,.bool false],[]⟩)) Q E s:=by
 refine wpAny_runValue (codeAny_builtin zB ?_)
 unfold Builtin.«proto.unchain»
 dsimp only
 refine wpAny_bind (wpAny_field he hd h2 ?_)
 rw[if_pos (by rfl)]
 exact wpAny_pure h
theorem zl{α:Type}{a:Addr}{oa:Obj}{ws:Array Value}{Q:α->Shared->Prop}(q:iH A s.heap)(ha:s.heap.get? a=some oa)(hda:oa.data = .fields ws)(hz:2<ws.size)
  (hnew:∀e oe,A.handled=some (.ref e)->s.heap.get? e=some oe->e≠a)
  (h:∀h',Heap.ExtBut a s.heap h'->(∃o',h'.get? a=some o'/\o'.cls=oa.cls)->E (.ref a) {s with heap:=h'}):wpAny (model prog w) A (raiseNew (.ref a):Sem α) Q E s:=by
 unfold raiseNew
 refine wpAny_bind (wpAny_handled ?_)
 rcases q with q|⟨e,oe,vs,q,he,hd,h2⟩
 ·rw[q]
  exact wpAny_bind (wpAny_pure (wpAny_throw (h s.heap (fun b o _ z=>z) ⟨oa,ha,rfl⟩)))
 ·rw[q]
  have ne:e≠a:=hnew e oe q he
  dsimp only
  rw[if_pos (by simp[ne])]
  refine wpAny_bind (wpAny_holding (Df he hd h2 ?_))
  refine wpAny_bind ?_
  refine wpAny_setField ha hda hz (wpAny_throw ?_)
  have hd':=Obj.data_mapFields hda (·.setIfInBounds 2 (Value.ref e))
  exact h _ (Heap.SameBut.update ..).extBut ⟨_,Heap.get?_update_self _ ha (Obj.isFreed_of_fields hd'),Obj.cls_mapFields ..⟩
theorem xI{it:Addr}{α:Type}{h0:Heap}{Q:α->Shared->Prop}(q:iH A s.heap)(k:Heap.ExtBut it h0 s.heap)(kl:∀e oe,A.handled=some (.ref e)->s.heap.get? e=some oe->True)
  (h:∀h' a,Heap.ExtBut it h0 h'->(∃o',h'.get? a=some o'/\o'.cls = .type "StopIteration")->E (.ref a) {s with heap:=h'}):wpAny (model prog w) A (newExc (.type "StopIteration") []>>=fun e=>(raiseNew e:Sem α)) Q E s:=by
 refine wpAny_bind ?_;simp only[newExc,newTuple]
 refine wpAny_bind (wpAny_newObj_type ?_ (by size_fits));refine wpAny_bind (m:=firstArgMember _ _) (wpAny_of_eq (a:=Value.none) (by first|rfl|(simp only[firstArgMember];rfl)) ?_);refine wpAny_newObj_type ?_ (by size_fits)
 have q':∀o1 o2:Obj,iH A ((s.heap.push o1).push o2):=fun o1 o2=>by
  rcases q with q|⟨e,oe,vs,q,he,r⟩
  ·exact .inl q
  ·exact .inr ⟨e,oe,vs,q,Heap.get?_push_of_some _ (Heap.get?_push_of_some _ he),r⟩
 refine zl (q' _ _) (Heap.get?_push_size _ rfl) rfl (by rw[Array.size_append];exact lt_of_lt_of_le (by decide:2<6) (le_add_right _ _)) (fun e oe hq he z=>?_) fun h' hx ⟨o',ho',hc'⟩=>h h' _ (fun b o hb e=>hx b o ?_ (Heap.get?_push_of_some _ (Heap.get?_push_of_some _ (k b o hb e)))) ⟨o',ho',hc'⟩
 ·rcases q with q|⟨e1,oe1,vs,q,he1,r⟩
  ·rw[q] at hq;cases hq
  ·rw[q] at hq;cases hq
   exact absurd (Heap.lt_size he1) (by rw[z];simp)
 ·exact ne_of_lt (lt_of_lt_of_le (Heap.lt_size (k b o hb e)) (by simp))
theorem uj{it:Addr}{o:Obj}{ws:Array Value}{f:Array Value->Array Value}(q:iH A s.heap)(ho:s.heap.get? it=some o)(hd:o.data = .fields ws)(hn:∀e,A.handled=some (.ref e)->e≠it):iH A (s.heap.update it (Obj.mapFields f)):=by
 rcases q with q|⟨e,oe,vs,q,he,r⟩
 ·exact .inl q
 ·exact .inr ⟨e,oe,vs,q,by rw[Heap.get?_update_other _ _ (Ne.symm (hn e q))];exact he,r⟩
theorem Ac{it l:Addr}{i:Nat}{items}{Q:Option Value->Shared->Prop}(q:iH A s.heap)(hn:∀e,A.handled=some (.ref e)->e≠it)(hit:s.heap.IsListIter it l i)(hl:s.heap.IsList l items)(hx:items[i]? = none)
  (hQ:∀h',Heap.ExtBut it s.heap h'->Q none {s with heap:=h'}):wpAny (model prog w) A (pyNext (.ref it)) Q E s:=by
 obtain⟨o,ho,hc,hd⟩:=id hit
 obtain⟨ol,hol,_,nl,hdl⟩:=hl;unfold pyNext
 refine wpAny_bind (wpAny_attempt (wpAny_callSpecial?_slot (name:=Str.ofString "__next__") hit.typeIs slot_listiter_next (wpAny_call_entry slot_listiter_next hit.typeIs entry_listiter_next ?_ (args_listiter_next _))))
 show wpAny _ _ (field (.ref it) 0>>=_) _ _ s;refine wpAny_bind (wpAny_field ho hd (x:=.ref l) rfl ?_)
 show wpAny _ _ (if (Value.ref l==Value.none)=true then _ else _) _ _ s;rw[if_neg (show ¬ ((Value.ref l==Value.none)=true) from Bool.false_ne_true)]
 show wpAny _ _ (field (.ref it) 1>>=_) _ _ s;refine wpAny_bind (wpAny_field ho hd (x:=.int i 0) rfl ?_)
 show wpAny _ _ (seqItems? (.ref l)>>=_) _ _ s;refine wpAny_bind (wpAny_seqItems hol hdl ?_);simp only[Int.toNat_natCast,hx]
 refine wpAny_bind (wpAny_rule (wpAny_bind (wpAny_setField ho hd (by simp) ?_)))
 refine xI (it:=it) (h0:=s.heap) (A:=A.in1) (uj (A:=A.in1) q ho hd hn) (Heap.SameBut.update ..).extBut (fun _ _ _ _=>trivial) fun h' a hx' hq0=>?_
 obtain⟨o',ho',hc'⟩:=hq0
 refine wpAny_bind (wpAny_isInstance (T:="StopIteration") (b:=true) ⟨_,ho',hc'⟩ isSubtype_stop ?_);exact wpAny_pure (hQ _ hx')
theorem tY{it t:Addr}{i:Nat}{items}{Q:Option Value->Shared->Prop}(q:iH A s.heap)(hn:∀e,A.handled=some (.ref e)->e≠it)(hit:IsTupIter s.heap it t i)(ht:IsTup s.heap t items)(hx:items[i]? = none)
  (hQ:∀h',Heap.ExtBut it s.heap h'->Q none {s with heap:=h'}):wpAny (model prog w) A (pyNext (.ref it)) Q E s:=by
 obtain⟨o,ho,hc,hd⟩:=id hit
 obtain⟨ol,hol,_,nl,hdl⟩:=ht;unfold pyNext
 refine wpAny_bind (wpAny_attempt (wpAny_callSpecial?_slot (name:=Str.ofString "__next__") hit.typeIs slot_tupleiter_next (wpAny_call_entry slot_tupleiter_next hit.typeIs entry_tupleiter_next ?_ (args_tupleiter_next _))))
 show wpAny _ _ (field (.ref it) 0>>=_) _ _ s;refine wpAny_bind (wpAny_field ho hd (x:=.ref t) rfl ?_)
 show wpAny _ _ (if (Value.ref t==Value.none)=true then _ else _) _ _ s;rw[if_neg (show ¬ ((Value.ref t==Value.none)=true) from Bool.false_ne_true)]
 show wpAny _ _ (field (.ref it) 1>>=_) _ _ s;refine wpAny_bind (wpAny_field ho hd (x:=.int i 0) rfl ?_)
 show wpAny _ _ (seqItems? (.ref t)>>=_) _ _ s;refine wpAny_bind (wpAny_seqItems hol hdl ?_);simp only[Int.toNat_natCast,hx]
 refine wpAny_bind (wpAny_rule (wpAny_bind (wpAny_setField ho hd (by simp) ?_)))
 refine xI (it:=it) (h0:=s.heap) (A:=A.in1) (uj (A:=A.in1) q ho hd hn) (Heap.SameBut.update ..).extBut (fun _ _ _ _=>trivial) fun h' a hx' hq0=>?_
 obtain⟨o',ho',hc'⟩:=hq0
 refine wpAny_bind (wpAny_isInstance (T:="StopIteration") (b:=true) ⟨_,ho',hc'⟩ isSubtype_stop ?_);exact wpAny_pure (hQ _ hx')
theorem Ak{env:Env}{elts:List Expr}{x1}{pos:Pos}{t:Addr}{items:Array Value}{Q:Unit->Shared->Prop}(q:iH A s.heap)(ht:IsTup s.heap t items)(hn:(assignEach elts env).length=items.size)
  (hstar:(assignEach elts env).findIdx? (·.1)=none) (h:∀h',Heap.ExtBut s.heap.objs.size s.heap h'->wpAny (model prog w) A (assignInOrder ((assignEach elts env).map (·.2)) items.toList) Q E {s with heap:=h'}) :
  wpAny (model prog w) A (assign (.Tuple elts x1 pos) env (.ref t)) Q E s:=by
 rw[assign_Tuple]
 refine wpAny_bind (wpAny_standAt ?_)
 unfold unpack;rw[hn,hstar]
 refine wpAny_bind (wpAny_holding ?_)
 have hlt:t≠s.heap.objs.size:=by obtain⟨o,ho,_⟩:=ht;exact ne_of_lt (Heap.lt_size ho)
 unfold unpackItems;refine wpAny_bind ?_
 unfold notIterableAtAll;refine wpAny_bind (wpAny_specialOf ht.typeIs slot_tuple_iter.lookup ?_);refine wpAny_pure ?_;simp only[false_eq_true,if_false]
 refine wpAny_bind (wpAny_holding (iter_tuple ht ?_))
 refine wpAny_bind (wpAny_holding (draw_tuple hlt items.size 0 _ _ ⟨_,Heap.get?_push_size _ rfl,rfl,rfl⟩ (ht.push _) ∅ fun dL wv ut=>?_))
 rw[show List.take items.size (List.drop 0 items.toList)=items.toList from by rw[List.drop_zero];exact List.take_of_length_le (by simp),if_neg (by simp)]
 have fr:∀e,A.handled=some (.ref e)->e≠s.heap.objs.size:=fun e hq=>by
  rcases q with q|⟨e1,oe1,vs,q,he1,r⟩
  ·rw[q] at hq;cases hq
  ·rw[q] at hq;cases hq;exact ne_of_lt (Heap.lt_size he1)
 have q1:iH A dL:=by
  rcases q with q|⟨e,oe,vs,q,he,r⟩
  ·exact .inl q
  ·exact .inr ⟨e,oe,vs,q,ut.extBut e oe (fr e q) (Heap.get?_push_of_some _ he),r⟩
 refine wpAny_bind (wpAny_holding (tY q1 fr wv ((ht.push _).extBut ut.extBut hlt) (by simp) fun mt wE=>?_));simp only[Option.isSome_none,false_eq_true,if_false]
 exact wpAny_pure (h mt fun b o hb e=>wE b o hb (ut.extBut b o hb (Heap.get?_push_of_some _ e)))
end
end L2
namespace L2
open PySem PySem.Spec PyProof.Rows
noncomputable abbrev Key:=Sum Int Str
noncomputable def Od:Key->Value->Bool
 |.inl k,v=>Value.isInt k v
 |.inr x,v=>Value.isStrOf x v
noncomputable def Sr(w:World):Key->Int
 |.inl k=>hashInt k
 |.inr x=>hashStr w x
theorem cV:∀{k:Key} {v:Value},Od k v=true->(∃i t,k=Sum.inl i/\v=Value.int i t)\/(∃x t,k=Sum.inr x/\v=Value.str x t)
 |.inl i,v,h=>by
  obtain⟨t,e⟩:=Value.isInt_shape (k:=i) (v:=v) h
  exact .inl ⟨i,t,rfl,e⟩
 |.inr x,v,h=>by
  obtain⟨t,e⟩:=Value.isStrOf_shape (x:=x) (v:=v) h
  exact .inr ⟨x,t,rfl,e⟩
theorem P8(a b:Int):decide ((Sum.inl a:Key)=Sum.inl b)=(a==b):=by
 by_cases e:a=b
 ·subst e;simp
 ·have h:¬ (Sum.inl a:Key)=Sum.inl b:=fun q=>e (Sum.inl.inj q)
  rw[decide_eq_false h]
  exact (beq_eq_false_iff_ne.mpr e).symm
theorem OG(a b:Str):decide ((Sum.inr a:Key)=Sum.inr b)=decide (a=b):=by
 by_cases e:a=b
 ·subst e;simp
 ·have h:¬ (Sum.inr a:Key)=Sum.inr b:=fun q=>e (Sum.inr.inj q)
  rw[decide_eq_false h,decide_eq_false e]
theorem Qs(a:Int)(b:Str):decide ((Sum.inl a:Key)=Sum.inr b)=false:=decide_eq_false (fun q=>nomatch q)
theorem Pu(a:Str)(b:Int):decide ((Sum.inr a:Key)=Sum.inl b)=false:=decide_eq_false (fun q=>nomatch q)
noncomputable def Iw(prog:Program)(w:World):PySem.KeyKind prog w Key where
 is:=Od
 hash:=Sr w
 inj:=fun v a b ha hb=>by
  rcases cV ha with ⟨i,t,rfl,rfl⟩|⟨x,t,rfl,rfl⟩
  ·rcases cV hb with ⟨j,u,rfl,e⟩|⟨y,u,rfl,e⟩
   ·injection e with e1 _;rw[e1]
   ·exact nomatch e
  ·rcases cV hb with ⟨j,u,rfl,e⟩|⟨y,u,rfl,e⟩
   ·exact nomatch e
   ·injection e with e1 _;rw[e1]
 byValue:=fun k v h=>by
  rcases cV h with ⟨i,t,rfl,rfl⟩|⟨x,t,rfl,rfl⟩<;>rfl
 pyHash:=fun hv h=>by
  rcases cV hv with ⟨i,t,rfl,rfl⟩|⟨x,t,rfl,rfl⟩
  ·exact wpAny_pyHash_int h
  ·exact wpAny_pyHash_str h
 eqBool:=fun hu hv h=>by
  rcases cV hu with ⟨i,t,rfl,rfl⟩|⟨x,t,rfl,rfl⟩
  ·rcases cV hv with ⟨j,u,rfl,rfl⟩|⟨y,u,rfl,rfl⟩
   ·rw[P8] at h;exact wpAny_eqBool_int h
   ·rw[Qs] at h;exact SeqAt.EqAt.int_str i t y u _ _ _ _ h
  ·rcases cV hv with ⟨j,u,rfl,rfl⟩|⟨y,u,rfl,rfl⟩
   ·rw[Pu] at h;exact SeqAt.EqAt.str_int x t j u _ _ _ _ h
   ·rw[OG] at h;exact wpAny_eqBool_str h
 «strs»:=fun k x t v h=>by
  rcases cV h with ⟨i,u,rfl,e⟩|⟨y,u,rfl,e⟩
  ·exact nomatch e
  ·injection e with e1 _
   subst e1
   cases v<;>rfl
end L2
namespace L2
open PySem PySem.Spec PyProof.Rows
inductive V where
 |non|bl (b:Bool)|int (i:Int)|str (x:Str)|byt (b:Array UInt8)|flt (b:UInt64)|ref (a:Addr)|ty (n:String)
 deriving DecidableEq
noncomputable def RelV:V->Value->Prop
 |.non,u=>u=Value.none
 |.bl b,u=>u=Value.bool b
 |.int i,u=>∃t,u=Value.int i t
 |.str x,u=>∃t,u=Value.str x t
 |.byt b,u=>∃t,u=Value.bytes b t
 |.flt b,u=>∃t,u=Value.float b t
 |.ref a,u=>u=Value.ref a
 |.ty n,u=>u=Value.type n
noncomputable abbrev Vals:List V->List Value->Prop:=Paired RelV
theorem Vals.length{xs:List V}{us:List Value}(r:Vals xs us):xs.length=us.length:=Paired.length r
theorem Vals.get:∀{xs:List V} {us:List Value} {i:Nat} {x:V},Vals xs us->xs[i]? = some x->∃u,us[i]? = some u/\RelV x u
 |_,_,_,_,.nil,e=>by simp at e
 |_,_,0,_,.cons r _,e=>by simp at e;subst e;exact⟨_,rfl,r⟩
 |_,_,i+1,x,.cons _ t,e=>by
  obtain⟨u,h1,h2⟩:=Vals.get (i:=i) (x:=x) t (by simpa using e)
  exact⟨u,by simpa using h1,h2⟩
theorem Vals.set{x:V}{u:Value}(r:RelV x u):∀{xs:List V} {us:List Value} (i:Nat),Vals xs us->Vals (xs.set i x) (us.set i u)
 |_,_,_,.nil=>.nil
 |_,_,0,.cons _ t=>.cons r t
 |_,_,i+1,.cons q t=>.cons q (Vals.set r i t)
theorem Vals.append:∀{xs ys:List V} {us ws:List Value},Vals xs us->Vals ys ws->Vals (xs++ys) (us++ws)
 |_,_,_,_,.nil,s=>s
 |_,_,_,_,.cons r t,s=>.cons r (Vals.append t s)
theorem Vals.take:∀{xs:List V} {us:List Value} (n:Nat),Vals xs us->Vals (xs.take n) (us.take n)
 |_,_,0,_=>.nil
 |_,_,_+1,.nil=>.nil
 |_,_,n+1,.cons r t=>.cons r (Vals.take n t)
theorem Vals.drop:∀{xs:List V} {us:List Value} (n:Nat),Vals xs us->Vals (xs.drop n) (us.drop n)
 |_,_,0,r=>r
 |_,_,_+1,.nil=>.nil
 |_,_,n+1,.cons _ t=>Vals.drop n t
noncomputable def Rf:Option V->Option Value->Prop
 |some v,some u=>RelV v u
 |none,none=>True
 |_,_=>False
noncomputable def KV{κ:Type}:List (κ×V)->List (κ×Value)->Prop:=Paired fun (p:κ×V) (q:κ×Value)=>p.1=q.1/\RelV p.2 q.2
noncomputable def kV:Key->V
 |.inl i=>.int i
 |.inr x=>.str x
inductive HO where
  /-- a list -/
 |lst (xs:List V)
  /-- a tuple (never changes) -/
 |tup (xs:List V)
  /-- a dict whose keys are ints and texts; one whose keys are tuples of ints and texts (the empty one is both) -/
 |dK (kvs:List (Key×V))|dT (kvs:List (List Key×V))
  /-- a set of ints: its members, its size -/
 |set (S:Int->Bool) (n:Nat)
  /-- an instance of the class at C, its dict at dx, its attributes -/
 |ins (C dx:Addr) (fs:List (Str×V))
  /-- the dict of the instance at x -/
 |own (x:Addr)
  /-- the dict of an exception -/
 |xd (fs:List (Str×V))
  /-- a bound method, f of x -/
 |met (f x:Addr)
  /-- a range object lo, lo + 1, .. below hi -/
 |rng (lo hi:Int)
  /-- a thing that is known to the object (the script; a dict while a loop walks it): read, never written while it is so -/
 |frz (o:Obj) (u:HO)
  /-- a code object's table -/
 |tbl (ps:Array Value)
  /-- any other thing, by what is true of its one object (a def of one's own: SetO a S n := HO.ext fun h => ..) -/
 |ext (φ:Heap->Prop)
  /-- the object itself; it may change -/
 |raw (o:Obj)
noncomputable abbrev Hp:=Addr->Option HO
noncomputable def upd(H:Hp)(a:Addr)(o:HO):Hp:=fun b=>if b=a then some o else H b
theorem eU{H:Hp}{a:Addr}{o:HO}:upd H a o a=some o:=by unfold upd;rw[if_pos rfl]
theorem aS{H:Hp}{a b:Addr}{o:HO}(h:b≠a):upd H a o b=H b:=by unfold upd;rw[if_neg h]
theorem aY{H:Hp}{a b:Addr}{o:HO}(h:H a=some o)(h':H b=none):a≠b:=by
 intro e;subst e;rw[h] at h';cases h'
section
variable (P:Program)(w:World)
noncomputable def jU(H:Hp)(h:Heap)(a:Addr):HO->Prop
 |.lst xs=>xs.length<=sizeLine/\∃(its:List Value) (n:Nat),Vals xs its/\h.get? a=some {cls:=.type "list",data:=.seq its.toArray n}
 |.tup xs=>xs.length<=sizeLine/\∃its:List Value,Vals xs its/\IsTup h a its.toArray
 |.dK kvs=>kvs.length<=sizeLine/\(a==sysModules)=false/\∃vs,KV kvs vs/\h.DictOf (Iw P w) a vs
 |.dT kvs=>kvs.length<=sizeLine/\(a==sysModules)=false/\∃xs:List (List Key×Addr×Value),
   Paired (fun (p:List Key×V) (q:List Key×Addr×Value)=>p.1=q.1/\H q.2.1=some (.tup (p.1.map kV))/\RelV p.2 q.2.2) kvs xs /\
   ∃o es ep,h.get? a=some o/\o.ExactDict/\o.data = .dict es ep/\es.toList=xs.map (entryOfKey (tupleKind (Iw P w)))/\(xs.map (·.1)).Nodup
 |.set S n=>h.SetOf (intKind P w) a S n
 |.ins C dx fs=>H dx=some (.own a)/\fs.length<=1000/\dx≠a/\h.get? a=some (PySem.W.instObj C dx) /\
   ∃mA,h.Ns1 dx mA/\(∀f,Rf (fs.lookup f) (mA f))/\PySem.Within mA (fs.map (·.1))
 |.own _=>∃o,h.get? a=some o
 |.xd fs=>∃mA,h.Ns1 a mA/\∀f,Rf (fs.lookup f) (mA f)
 |.rng lo hi=>∃t u v,h.get? a=some {cls:=.type "range",data:=.fields #[.int lo t,.int hi u,.int 1 v]}
 |.frz o u=>h.get? a=some o/\jU H h a u
 |.tbl ps=>h.get? a=some {cls:=.none,data:=.fields ps}
 |.met f x=>h.get? a=some (PySem.W.methodObj (.ref f) (.ref x))
 |.ext φ=>φ h/\(∃o,h.get? a=some o)/\∀h1 h2:Heap,φ h1->(∀o,h1.get? a=some o->h2.get? a=some o)->φ h2
 |.raw o=>h.get? a=some o
noncomputable def HOk(H:Hp)(h:Heap):Prop:=∀a o,H a=some o->jU P w H h a o
end
section
variable {P:Program}{w:World}{H H':Hp}{h h':Heap}{a:Addr}{o:HO}
theorem jU.lt(x:jU P w H h a o):a<h.objs.size:=by
 cases o with
 |lst xs=>obtain⟨_,_,_,_,e⟩:=x;exact Heap.lt_size e
 |tup xs=>obtain⟨_,_,_,p⟩:=x;exact p.lt
 |dK kvs=>obtain⟨_,_,_,_,o,_,_,e,_⟩:=x;exact Heap.lt_size e
 |dT kvs=>obtain⟨_,_,_,_,o,_,_,e,_⟩:=x;exact Heap.lt_size e
 |set S n=>obtain⟨o,_,_,_,e,_⟩:=x;exact Heap.lt_size e
 |ins C dx fs=>obtain⟨_,_,_,e,_⟩:=x;exact Heap.lt_size e
 |own y=>obtain⟨_,e⟩:=x;exact Heap.lt_size e
 |xd fs=>obtain⟨_,⟨_,_,_,e,_⟩,_⟩:=x;exact Heap.lt_size e
 |rng lo hi=>obtain⟨_,_,_,e⟩:=x;exact Heap.lt_size e
 |frz ob u=>obtain⟨e,_⟩:=x;exact Heap.lt_size e
 |tbl ps=>exact Heap.lt_size (show h.get? a=some _ from x)
 |met f y=>exact Heap.lt_size (show h.get? a=some _ from x)
 |ext φ=>obtain⟨_,⟨_,e⟩,_⟩:=x;exact Heap.lt_size e
 |raw ob=>exact Heap.lt_size (show h.get? a=some ob from x)
theorem Paired.Nj{α β:Type}{F G:α->β->Prop}:∀{wf:List α} {v6:List β},Paired F wf v6->(∀a b,F a b->G a b)->Paired G wf v6
 |_,_,.nil,_=>.nil
 |_,_,.cons r t,f=>.cons (f _ _ r) (Paired.Nj t f)
theorem jU.qX(x:jU P w H h a o)(k:∀b u,(b=a\/H b=some (.own a))->h.get? b=some u->h'.get? b=some u)
  (ho:∀b,H b=some (.own a)->H' b=some (.own a)) (ht:∀b xs,H b=some (.tup xs)->H' b=some (.tup xs)):jU P w H' h' a o:=by
 induction o with
 |lst xs=>obtain⟨z,its,n,r,e⟩:=x;exact⟨z,its,n,r,k _ _ (.inl rfl) e⟩
 |tup xs=>obtain⟨z,its,r,ob,e,c⟩:=x;exact⟨z,its,r,ob,k _ _ (.inl rfl) e,c⟩
 |dK kvs=>obtain⟨z,y,vs,r,ob,es,ep,e,c⟩:=x;exact⟨z,y,vs,r,ob,es,ep,k _ _ (.inl rfl) e,c⟩
 |dT kvs=>
  obtain⟨z,y,xs,r,ob,es,ep,e,c⟩:=x
  exact⟨z,y,xs,Paired.Nj r fun p q z=>⟨z.1,ht _ _ z.2.1,z.2.2⟩,ob,es,ep,k _ _ (.inl rfl) e,c⟩
 |set S n=>obtain⟨ob,es,ep,t,e,c⟩:=x;exact⟨ob,es,ep,t,k _ _ (.inl rfl) e,c⟩
 |ins C dx fs=>
  obtain⟨d,z,ne,e,mA,⟨od,es,ep,e2,c⟩,r⟩:=x
  exact⟨ho _ d,z,ne,k _ _ (.inl rfl) e,mA,⟨od,es,ep,k _ _ (.inr d) e2,c⟩,r⟩
 |own y=>obtain⟨ob,e⟩:=x;exact⟨ob,k _ _ (.inl rfl) e⟩
 |xd fs=>obtain⟨mA,⟨od,es,ep,e,c⟩,r⟩:=x;exact⟨mA,⟨od,es,ep,k _ _ (.inl rfl) e,c⟩,r⟩
 |rng lo hi=>obtain⟨t,u,v,e⟩:=x;exact⟨t,u,v,k _ _ (.inl rfl) e⟩
 |frz ob u ih=>obtain⟨e,q⟩:=x;exact⟨k _ _ (.inl rfl) e,ih q⟩
 |tbl ps=>
  have e:h.get? a=some {cls:=.none,data:=.fields ps}:=x
  show h'.get? a=some {cls:=.none,data:=.fields ps}
  exact k a _ (.inl rfl) e
 |met f y=>
  have e:h.get? a=some (PySem.W.methodObj (.ref f) (.ref y)):=x
  show h'.get? a=some (PySem.W.methodObj (.ref f) (.ref y))
  exact k a _ (.inl rfl) e
 |raw ob=>
  have e:h.get? a=some ob:=x
  show h'.get? a=some ob
  exact k a _ (.inl rfl) e
 |ext φ=>obtain⟨p,⟨o,e⟩,st⟩:=x;exact⟨st _ _ p fun o q=>k _ _ (.inl rfl) q,⟨o,k _ _ (.inl rfl) e⟩,st⟩
theorem HOk.lt(x:HOk P w H h)(e:H a=some o):a<h.objs.size:=(x a o e).lt
theorem HOk.fresh(x:HOk P w H h)(e:h.objs.size<=a):H a=none:=by
 cases q:H a with
 |none=>rfl
 |some u=>exact absurd (lt_of_lt_of_le (x.lt q) e) (lt_irrefl _)
theorem HOk.kept(x:HOk P w H h)(k:∀b u,h.get? b=some u->h'.get? b=some u):HOk P w H h':=fun a o e=>
 (x a o e).qX (fun b u _ q=>k b u q) (fun _ q=>q) fun _ _ q=>q
theorem HOk.laid(x:HOk P w H h)(k:∀b u,h.get? b=some u->h'.get? b=some u)(hp:h.objs.size<=a)(new:jU P w (upd H a o) h' a o):HOk P w (upd H a o) h':=fun b u e=>by
 have hn:=x.fresh hp
 by_cases hb:b=a
 ·subst hb;rw[eU] at e;cases e;exact new
 ·rw[aS hb] at e
  exact (x b u e).qX (fun c v _ q=>k c v q) (fun c q=>by rw[aS (aY q hn)];exact q) fun c xs q=>by rw[aS (aY q hn)];exact q
end
noncomputable def Rd(H:Hp)(a:Addr)(u:HO):Prop:=H a=some u\/∃o,H a=some (.frz o u)
theorem Rd.ok{P:Program}{w:World}{H:Hp}{h:Heap}{a:Addr}{u:HO}(r:Rd H a u)(x:HOk P w H h):jU P w H h a u:=by
 rcases r with r|⟨o,r⟩
 ·exact x a u r
 ·obtain⟨_,q⟩:=x a _ r
  exact q
noncomputable def Mut:Option HO->Prop
 |some (.lst _)=>True
 |some (.dK _)=>True
 |some (.dT _)=>True
 |some (.set _ _)=>True
 |some (.ins _ _ _)=>True
 |some (.ext _)=>True
 |some (.raw _)=>True
 |_=>False
section
variable {P:Program}{w:World}{H:Hp}{h h':Heap}{x e:Addr}{o':HO}
theorem HOk.write(ok:HOk P w H h)(mu:Mut (H x))(he:e=x\/H e=some (.own x))(k:∀b u,b≠e->h.get? b=some u->h'.get? b=some u)(heo:∃u,h'.get? e=some u)
  (new:jU P w (upd H x o') h' x o'):HOk P w (upd H x o') h':=fun b u q=>by
 have nown:∀c y,H c=some (.own y)->c≠x:=fun c y r z=>by subst z;rw[r] at mu;exact mu
 have ntup:∀c xs,H c=some (.tup xs)->c≠x:=fun c xs r z=>by subst z;rw[r] at mu;exact mu
 by_cases hb:b=x
 ·subst hb;rw[eU] at q;cases q;exact new
 ·rw[aS hb] at q
  by_cases hbe:b=e
  ·have q':H b=some (.own x):=by
    rcases he with z|z
    ·exact absurd (hbe.trans z) hb
    ·rw[hbe];exact z
   rw[q] at q';cases q'
   obtain⟨v,hv⟩:=heo
   exact⟨v,by rw[hbe];exact hv⟩
  ·refine (ok b u q).qX (fun c v hc r=>k c v ?_ r) (fun c r=>by rw[aS (nown c b r)];exact r) fun c xs r=>by rw[aS (ntup c xs r)];exact r
   rcases hc with rfl|hc
   ·exact hbe
   ·rintro rfl
    rcases he with z|z
    ·exact nown c b hc z
    ·rw[hc] at z;cases z;exact hb rfl
end
structure Un(fs ex:List Addr)(H H':Hp)(h h':Heap):Prop where
 keep:∀b o,h.get? b=some o->H b=none->b ∉ fs->b ∉ ex->h'.get? b=some o
 slot:∀b o,h.get? b=some o->H b=none->b∈fs->b ∉ ex->∃sl,h'.get? b=some {o with slots:=sl}
 free:∀b o,h.get? b=some o->H b=none->b ∉ ex->H' b=none
 there:∀b o,h.get? b=some o->b ∉ ex->∃o',h'.get? b=some o'
 wW:∀b xs,H b=some (.tup xs)->H' b=some (.tup xs)
 uI:∀b o u,H b=some (.frz o u)->H' b=some (.frz o u)
 uA:∀b ps,H b=some (.tbl ps)->∃more,H' b=some (.tbl (ps++more))
section
variable {fs fs' ex ex':List Addr}{H H1 H2:Hp}{h h1 h2 h':Heap}{a x e:Addr}{o:HO}
theorem Un.any(u:Un fs ex H H1 h h1){b:Addr}{ob:Obj}(q:h.get? b=some ob)(n:H b=none)(hx:b ∉ ex):∃sl,h1.get? b=some {ob with slots:=sl}:=by
 by_cases hb:b∈fs
 ·exact u.slot b ob q n hb hx
 ·exact⟨ob.slots,u.keep b ob q n hb hx⟩
theorem Un.trans(a:Un fs ex H H1 h h1)(b:Un fs ex H1 H2 h1 h2):Un fs ex H H2 h h2 where
 keep:=fun c ob q n hc hx=>b.keep c ob (a.keep c ob q n hc hx) (a.free c ob q n hx) hc hx
 slot:=fun c ob q n hc hx=>by
  obtain⟨sl,e1⟩:=a.slot c ob q n hc hx
  obtain⟨sl',e2⟩:=b.slot c _ e1 (a.free c ob q n hx) hc hx
  exact⟨sl',e2⟩
 free:=fun c ob q n hx=>by
  obtain⟨o',e1⟩:=a.there c ob q hx
  exact b.free c o' e1 (a.free c ob q n hx) hx
 there:=fun c ob q hx=>by
  obtain⟨o',e1⟩:=a.there c ob q hx
  exact b.there c o' e1 hx
 wW:=fun c xs q=>b.wW c xs (a.wW c xs q)
 uI:=fun c ob xs q=>b.uI c ob xs (a.uI c ob xs q)
 uA:=fun c ps q=>by
  obtain⟨m1,e1⟩:=a.uA c ps q
  obtain⟨m2,e2⟩:=b.uA c _ e1
  exact⟨m1++m2,by rw[e2,Array.append_assoc]⟩
theorem Un.kept(k:∀b u,h.get? b=some u->h'.get? b=some u):Un fs ex H H h h':=
 ⟨fun b ob q _ _ _=>k b ob q,fun b ob q _ _ _=>⟨ob.slots,k b ob q⟩,fun _ _ _ n _=>n,fun b ob q _=>⟨ob,k b ob q⟩,fun _ _ q=>q,fun _ _ _ q=>q,fun _ ps q=>⟨#[],by rw[q];simp⟩⟩
theorem Un.refl:Un fs ex H H h h:=Un.kept fun _ _ q=>q
theorem Un.laid(k:∀b u,h.get? b=some u->h'.get? b=some u)(hp:h.objs.size<=a)(hn:H a=none):Un fs ex H (upd H a o) h h' where
 keep:=fun b u q _ _ _=>k b u q
 slot:=fun b u q _ _ _=>⟨u.slots,k b u q⟩
 free:=fun b u q n _=>by rw[aS (ne_of_lt (lt_of_lt_of_le (Heap.lt_size q) hp))];exact n
 there:=fun b u q _=>⟨u,k b u q⟩
 wW:=fun b xs q=>by rw[aS (aY q hn)];exact q
 uI:=fun b u xs q=>by rw[aS (aY q hn)];exact q
 uA:=fun b ps q=>⟨#[],by rw[aS (aY q hn),q];simp⟩
theorem Un.write(mu:Mut (H x))(he:e=x\/H e=some (.own x))(k:∀b u,b≠e->h.get? b=some u->h'.get? b=some u)(heo:∃u,h'.get? e=some u):Un fs ex H (upd H x o) h h':=by
 have hx:∀b,H b=none->b≠x:=fun b n z=>by subst z;rw[n] at mu;exact mu
 have hb:∀b,H b=none->b≠e:=fun b n z=>by
  subst z
  rcases he with r|r
  ·exact hx b n r
  ·rw[n] at r;cases r
 have hm:∀b u,H b=some u->¬ Mut (some u)->b≠x:=fun b u q nm z=>by subst z;rw[q] at mu;exact nm mu
 refine⟨fun b u q n _ _=>k b u (hb b n) q,fun b u q n _ _=>⟨u.slots,k b u (hb b n) q⟩,fun b u q n _=>by rw[aS (hx b n)];exact n,fun b u q _=>?_,
  fun b xs q=>by rw[aS (hm b _ q fun z=>z)];exact q,fun b u xs q=>by rw[aS (hm b _ q fun z=>z)];exact q,fun b ps q=>⟨#[],by rw[aS (hm b _ q fun z=>z),q];simp⟩⟩
 by_cases hbe:b=e
 ·subst hbe;exact heo
 ·exact⟨u,k b u hbe q⟩
end
noncomputable def trk(h:Heap)(H:Hp):List Addr:=(List.range h.objs.size).filter fun a=>(H a).isSome
noncomputable def Dh(h:Heap)(H:Hp):Heap:=PySem.W.hideAll h (trk h H)
theorem JR(h:Heap)(H:Hp):(Dh h H).objs.size=h.objs.size:=PySem.W.hideAll_size _ _
theorem Lo{h:Heap}{H:Hp}{b:Addr}{o:Obj}(e:h.get? b=some o)(n:H b=none):(Dh h H).get? b=some o:=
 PySem.W.hideAll_get _ e fun hm=>by
  have q:(H b).isSome=true:=(List.mem_filter.mp hm).2
  rw[n] at q;simp at q
theorem NC{h:Heap}{H:Hp}{b:Addr}{o:Obj}(e:(Dh h H).get? b=some o):h.get? b=some o/\H b=none:=by
 have e':h.get? b=some o:=PySem.W.of_hideAll (trk h H) e
 refine⟨e',?_⟩
 cases q:H b with
 |none=>rfl
 |some x=>
  have hm:b∈trk h H:=List.mem_filter.mpr ⟨List.mem_range.mpr (Heap.lt_size e'),by simp[q]⟩
  have z:(Dh h H).get? b=none:=PySem.W.hideAll_none (trk h H) hm
  rw[z] at e;cases e
noncomputable def MW(g h:Heap)(L:Addr):List (Addr×Obj):=(List.range h.objs.size).filterMap fun a=>if a=L\/(g.get? a).isSome=true then none else (h.get? a).map fun o=>(a,o)
noncomputable def rest(g h:Heap)(L d:Addr):List (Addr×Obj):=(MW g h L).filter fun p=>decide (p.1≠d)
end L2
namespace L2
open PySem PySem.Spec PyProof.Rows
structure Mod(K:PySem.W.Frag)(mg:Str->Option Value)(base:Heap):Prop where
 kin:K.In base
 glob:base.Ns mainGlobals mg
 blt:∃mb,base.Ns builtinsNs mb/\∀x:Str,x ≠ "__name__"->mb x=bootBuiltins x
 nolimit:base.NoLimit
structure Cx where
 prog:Program
 w:World
 K:PySem.W.Frag
 mg:Str->Option Value
 base:Heap
 A:Around
 N:List Str
 gV:Shared
 H₀:Hp
 env:Env
 outer:List Env
 stack:List Env
 ex:List Addr
 fn:Str->Bool
 calm:Bool
 pn:List (Addr×Obj)
 xe:Value->Shared->Prop
noncomputable def frs(l:List Env):List Addr:=l.filterMap (·.frame)
noncomputable abbrev Cx.fs(X:Cx):List Addr:=frs X.outer
noncomputable def Vis(sc:Scope)(x:Str):Prop:=sc.names.lookup x=some .local\/sc.names.lookup x=some .cell\/sc.names.lookup x=some .free
noncomputable def Loc(sc:Scope)(x:Str):Prop:=sc.names.lookup x=some .local\/sc.names.lookup x=some .cell
noncomputable def Look(env:Env)(h:Heap)(m:Str->Option Value)(x:Str)(u:Value):Prop:=
 (env.kindOf x=some .local/\m x=some u)\/((env.kindOf x=some .cell\/env.kindOf x=some .free)/\∃c,env.cells.lookup x=some c/\h.IsCell c (some u))
structure Cx.Ok(X:Cx):Prop where
 mod:Mod X.K X.mg X.base
 kind:X.env.scope.kind = .function
 glob:X.env.globals=mainGlobals
 blt:X.env.builtins=builtinsNs
 above:X.gV.heap.objs.size<=X.env.locals
 inj:∀x y c,X.env.cells.lookup x=some c->X.env.cells.lookup y=some c->x=y
 has:∀x,(X.env.kindOf x=some .cell\/X.env.kindOf x=some .free)->∃c,X.env.cells.lookup x=some c
 cab:∀x c,X.fn x=true->X.env.cells.lookup x=some c->X.gV.heap.objs.size<=c
 hd:X.calm=true->X.A.handled=none
 qt:X.A.handled=none\/∃(e:Addr) (oe:Obj) (vs:Array Value),X.A.handled=some (.ref e)/\(e,oe)∈X.pn/\oe.data = .fields vs/\vs[2]? = some .none
 frames:X.A.frames=some X.stack
 stk:X.stack=X.outer\/(X.stack=X.env::X.outer/\X.env.frame=some X.env.locals)
 exf:∀b∈X.ex,b≠X.env.locals/\∀x c,X.env.cells.lookup x=some c->c≠b
 bs:∀b o,X.base.get? b=some o->X.gV.heap.get? b=some o/\X.H₀ b=none
 bsz:X.base.objs.size<=X.gV.heap.objs.size
 EV:∀b o,X.base.get? b=some o->b ∉ X.ex
 MJ:∀b∈X.ex,b ∉ X.fs
 xR:X.gV.heap.FunFrames X.base X.outer
 frf:∀b∈X.fs,X.H₀ b=none
structure Inv(X:Cx)(pins:List (Addr×Obj))(σ:List (Option V))(H:Hp)(s:Shared):Prop where
 ok:X.Ok
 os:s.os=X.gV.os
 bare:AllBare s.gens
 base:Un X.fs X.ex X.H₀ H X.gV.heap s.heap
 loc:∃m,s.heap.Ns X.env.locals m/\∀(i:Nat) (x:Str) (v:V),X.N[i]? = some x->σ[i]? = some (some v)->Vis X.env.scope x->∃u,RelV v u/\Look X.env s.heap m x u
 cell:∀x c,X.env.cells.lookup x=some c->∃v,s.heap.IsCell c v
 free:H X.env.locals=none
 mv:∀x c,X.env.cells.lookup x=some c->H c=none
 pin:∀p∈X.pn++pins,s.heap.get? p.1=some p.2/\H p.1=none/\p.1≠X.env.locals/\p.1 ∉ X.fs/\∀v,p.2.data≠.cell v
 hok:HOk X.prog X.w H s.heap
 len:σ.length=X.N.length
section
variable {X:Cx}{pins:List (Addr×Obj)}{σ:List (Option V)}{H H':Hp}{s:Shared}{h':Heap}
theorem Inv.G9(I:Inv X pins σ H s):iH X.A s.heap:=by
 rcases I.ok.qt with q|⟨e,oe,vs,q,hp,r⟩
 ·exact .inl q
 ·exact .inr ⟨e,oe,vs,q,(I.pin (e,oe) (mem_append_left _ hp)).1,r⟩
theorem Inv.hne(I:Inv X pins σ H s){b:Addr}(hb:∀p∈X.pn++pins,p.1≠b):∀e,X.A.handled=some (.ref e)->e≠b:=fun e he=>by
 rcases I.ok.qt with q|⟨e1,oe,vs,q,hp,r⟩
 ·rw[q] at he;cases he
 ·rw[q] at he;cases he;exact hb (e,oe) (mem_append_left _ hp)
theorem Cx.Ok.RU(ok:X.Ok){b:Addr}{o:Obj}(e:X.base.get? b=some o):b ∉ X.fs:=fun hb=>by
 have:=(ok.xR.mem hb).1
 rw[e] at this;cases this
theorem Inv.bs(I:Inv X pins σ H s):∀b o,X.base.get? b=some o->s.heap.get? b=some o/\H b=none:=fun b o e=>
 ⟨I.base.keep b o (I.ok.bs b o e).1 (I.ok.bs b o e).2 (I.ok.RU e) (I.ok.EV b o e),I.base.free b o (I.ok.bs b o e).1 (I.ok.bs b o e).2 (I.ok.EV b o e)⟩
theorem Inv.bk(I:Inv X pins σ H s):∀b o,X.base.get? b=some o->s.heap.get? b=some o:=fun b o e=>(I.bs b o e).1
theorem Inv.mod(I:Inv X pins σ H s):Mod X.K X.mg X.base:=I.ok.mod
theorem Inv.kIn(I:Inv X pins σ H s):X.K.In s.heap:=I.ok.mod.kin.keeps I.bk
theorem Inv.lt(I:Inv X pins σ H s):X.env.locals<s.heap.objs.size:=let ⟨_,hn,_⟩:=I.loc;hn.lt
theorem Inv.sz(I:Inv X pins σ H s):X.gV.heap.objs.size<=s.heap.objs.size:=le_trans I.ok.above (Nat.le_of_lt I.lt)
theorem Inv.Sj(I:Inv X pins σ H s){a:Addr}(h:s.heap.objs.size<=a):a ∉ X.fs:=fun hb=>by
 obtain⟨_,o,ho,_⟩:=I.ok.xR.mem hb
 exact absurd (lt_of_lt_of_le (Heap.lt_size ho) (le_trans I.sz h)) (lt_irrefl _)
theorem Inv.cne(I:Inv X pins σ H s):∀x c,X.env.cells.lookup x=some c->c≠X.env.locals:=fun x c e z=>by
 obtain⟨v,o,ho,hd⟩:=I.cell x c e
 obtain⟨m,⟨o',es,ep,ho',hd',_⟩,_⟩:=I.loc
 rw[z,ho'] at ho;cases ho;rw[hd'] at hd;cases hd
theorem Inv.xR(I:Inv X pins σ H s):s.heap.FunFrames X.base X.outer:=by
 have all:∀(l:List Env),(∀b∈frs l,b∈X.fs)->X.gV.heap.FunFrames X.base l->s.heap.FunFrames X.base l:=by
  intro l
  induction l with
  |nil=>intro _ _;trivial
  |cons env r ih=>
   intro hs hl
   obtain⟨hk,⟨L,o,hf,hn,ho,hd⟩,hr⟩:=hl
   have hL:L∈X.fs:=hs L (by unfold frs;rw[filterMap_cons,hf];exact mem_cons_self)
   obtain⟨sl,e⟩:=I.base.slot L o ho (I.ok.frf L hL) hL fun z=>I.ok.MJ L z hL
   exact⟨hk,⟨L,_,hf,hn,e,hd⟩,ih (fun b hb=>hs b (by unfold frs;rw[filterMap_cons,hf];exact mem_cons_of_mem _ hb)) hr⟩
 exact all X.outer (fun _ hb=>hb) I.ok.xR
theorem Inv.stack(I:Inv X pins σ H s):s.heap.FunFrames X.base X.stack:=by
 rcases I.ok.stk with e|⟨e,hf⟩
 ·rw[e];exact I.xR
 ·rw[e]
  obtain⟨m,hn,_⟩:=I.loc
  refine .cons (by rw[I.ok.kind];decide) hf hn ?_ I.xR
  exact Heap.get?_none_of_le (le_trans I.ok.bsz I.ok.above)
theorem Inv.lz(I:Inv X pins σ H s):∀b∈frs X.stack,b∈X.env.locals::X.fs:=fun b hb=>by
 rcases I.ok.stk with e|⟨e,hf⟩
 ·rw[e] at hb;exact mem_cons_of_mem _ hb
 ·rw[e] at hb
  unfold frs at hb
  rw[filterMap_cons,hf] at hb
  exact hb
theorem Inv.tL(I:Inv X pins σ H s):∀b∈frs X.stack,H b=none:=fun b hb=>by
 rcases List.mem_cons.mp (I.lz b hb) with e|hb
 ·rw[e];exact I.free
 ·obtain⟨_,o,ho,_⟩:=I.ok.xR.mem hb
  exact I.base.free b o ho (I.ok.frf b hb) fun z=>I.ok.MJ b z hb
theorem Inv.step{g':Array GenState}{t':Nat}{d':Drawn}{ch:List Addr}(I:Inv X pins σ H s)
  (hch:∀b∈ch,(b∈X.ex\/X.gV.heap.objs.size<=b)/\b≠X.env.locals/\(∀x c,X.env.cells.lookup x=some c->c≠b)/\∀p∈X.pn++pins,p.1≠b)
  (keep:∀b o,b≠X.env.locals->b ∉ X.fs->b ∉ ch->s.heap.get? b=some o->H b=none->h'.get? b=some o)
  (slot:∀b o,b≠X.env.locals->b∈X.fs->b ∉ ch->s.heap.get? b=some o->H b=none->∃sl,h'.get? b=some {o with slots:=sl}) (free:∀b o,b ∉ ch->s.heap.get? b=some o->H b=none->H' b=none)
  (there:∀b o,b ∉ ch->s.heap.get? b=some o->∃o',h'.get? b=some o')
  (wW:∀b xs,H b=some (.tup xs)->H' b=some (.tup xs)) (uI:∀b o u,H b=some (.frz o u)->H' b=some (.frz o u)) (uA:∀b ps,H b=some (.tbl ps)->∃more,H' b=some (.tbl (ps++more)))
  (ns:∀m,s.heap.Ns X.env.locals m->h'.Ns X.env.locals m) (hok:HOk X.prog X.w H' h') (hg:AllBare g') :
  Inv X pins σ H' {s with heap:=h',gens:=g',drawn:=d',toks:=t'}:=by
 have neL:∀b o,X.gV.heap.get? b=some o->b≠X.env.locals:=fun b o e=>ne_of_lt (lt_of_lt_of_le (Heap.lt_size e) I.ok.above)
 have neC:∀b o,X.gV.heap.get? b=some o->b ∉ X.ex->b ∉ ch:=fun b o e hx hb=>by
  rcases (hch b hb).1 with z|z
  ·exact hx z
  ·exact absurd (lt_of_lt_of_le (Heap.lt_size e) z) (lt_irrefl _)
 have cellK:∀x c,X.env.cells.lookup x=some c->∀v,s.heap.IsCell c v->h'.IsCell c v:=fun x c e v ⟨o,ho,hd⟩=>by
  have nch:c ∉ ch:=fun z=>(hch c z).2.2.1 x c e rfl
  by_cases hc:c∈X.fs
  ·obtain⟨sl,q⟩:=slot c o (I.cne x c e) hc nch ho (I.mv x c e)
   exact⟨_,q,hd⟩
  ·exact⟨o,keep c o (I.cne x c e) hc nch ho (I.mv x c e),hd⟩
 refine⟨I.ok,I.os,hg,⟨fun b o e n hb hx=>?_,fun b o e n hb hx=>?_,fun b o e n hx=>?_,fun b o e hx=>?_,fun b xs e=>wW b xs (I.base.wW b xs e),fun b o xs e=>uI b o xs (I.base.uI b o xs e),fun b ps e=>?_⟩,?_,fun x c e=>?_,?_,fun x c e=>?_,fun p hp=>?_,hok,I.len⟩
 ·exact keep b o (neL b o e) hb (neC b o e hx) (I.base.keep b o e n hb hx) (I.base.free b o e n hx)
 ·obtain⟨sl,e1⟩:=I.base.slot b o e n hb hx
  obtain⟨sl',e2⟩:=slot b _ (neL b o e) hb (neC b o e hx) e1 (I.base.free b o e n hx)
  exact⟨sl',e2⟩
 ·obtain⟨o',e1⟩:=I.base.there b o e hx
  exact free b o' (neC b o e hx) e1 (I.base.free b o e n hx)
 ·obtain⟨o',e1⟩:=I.base.there b o e hx
  exact there b o' (neC b o e hx) e1
 ·obtain⟨m1,e1⟩:=I.base.uA b ps e
  obtain⟨m2,e2⟩:=uA b _ e1
  exact⟨m1++m2,by rw[e2,Array.append_assoc]⟩
 ·obtain⟨m,hn,hl⟩:=I.loc
  refine⟨m,ns m hn,fun i x v e1 e2 e3=>?_⟩
  obtain⟨u,r,l⟩:=hl i x v e1 e2 e3
  refine⟨u,r,?_⟩
  rcases l with l|⟨k,c,e,z⟩
  ·exact .inl l
  ·exact .inr ⟨k,c,e,cellK x c e _ z⟩
 ·obtain⟨v,z⟩:=I.cell x c e
  exact⟨v,cellK x c e v z⟩
 ·obtain⟨m,⟨o,_,_,ho,_⟩,_⟩:=I.loc
  exact free _ o (fun z=>(hch _ z).2.1 rfl) ho I.free
 ·obtain⟨v,o,ho,hd⟩:=I.cell x c e
  exact free c o (fun z=>(hch c z).2.2.1 x c e rfl) ho (I.mv x c e)
 ·obtain⟨e,n,ne,nf,d⟩:=I.pin p hp
  have nch:p.1 ∉ ch:=fun z=>(hch p.1 z).2.2.2 p hp rfl
  exact⟨keep p.1 p.2 ne nf nch e n,free p.1 p.2 nch e n,ne,nf,d⟩
theorem Inv.un{t':Nat}(I:Inv X pins σ H s)(u:Un X.fs [] H H' s.heap h')(hok:HOk X.prog X.w H' h'):Inv X pins σ H' {s with heap:=h',toks:=t'}:=by
 obtain⟨m,⟨o,es,ep,ho,r⟩,_⟩:=id I.loc
 obtain⟨sl,hL⟩:=u.any ho I.free (by simp)
 exact I.step (g':=s.gens) (d':=s.drawn) (ch:=[]) (fun _ z=>nomatch z) (fun b o _ hb _ e n=>u.keep b o e n hb (by simp)) (fun b o _ hb _ e n=>u.slot b o e n hb (by simp)) (fun b o _ e n=>u.free b o e n (by simp)) (fun b o _ e=>u.there b o e (by simp)) u.wW u.uI u.uA (fun m' hm=>by
  obtain⟨o',es',ep',ho',r'⟩:=hm
  rw[ho] at ho';cases ho'
  exact⟨_,es',ep',hL,r'⟩) hok I.bare
theorem Inv.call{g':Array GenState}{t':Nat}{d':Drawn}{ch:List Addr}(I:Inv X pins σ H s)(u:Un (frs X.stack) ch H H' s.heap h')(hok:HOk X.prog X.w H' h')(hg:AllBare g')
  (hch:∀b∈ch,(b∈X.ex\/X.gV.heap.objs.size<=b)/\b≠X.env.locals/\(∀x c,X.env.cells.lookup x=some c->c≠b)/\∀p∈X.pn++pins,p.1≠b) :
  Inv X pins σ H' {s with heap:=h',gens:=g',drawn:=d',toks:=t'}:=by
 obtain⟨m,⟨o,es,ep,ho,r⟩,_⟩:=id I.loc
 obtain⟨sl,hL⟩:=u.any ho I.free fun z=>(hch _ z).2.1 rfl
 exact I.step (ch:=ch) hch (fun b o hL hb hc e n=>u.keep b o e n (fun z=>(List.mem_cons.mp (I.lz b z)).elim hL hb) hc) (fun b o _ _ hc e n=>u.any e n hc) (fun b o hc e n=>u.free b o e n hc) (fun b o hc e=>u.there b o e hc) u.wW u.uI u.uA (fun m' hm=>by
  obtain⟨o',es',ep',ho',r'⟩:=hm
  rw[ho] at ho';cases ho'
  exact⟨_,es',ep',hL,r'⟩) hok hg
theorem Inv.turned{t':Nat}{it:Addr}(I:Inv X pins σ H s)(k:∀b o,b≠it->s.heap.get? b=some o->h'.get? b=some o)(hn:H it=none)(hL:it≠X.env.locals)
  (h1:it∈X.ex\/X.gV.heap.objs.size<=it) (h2:∀x c,X.env.cells.lookup x=some c->c≠it) (h3:∀p∈X.pn++pins,p.1≠it):Inv X pins σ H {s with heap:=h',toks:=t'}:=by
 have nit:∀b u,H b=some u->b≠it:=fun b u e z=>by rw[z,hn] at e;cases e
 refine I.step (g':=s.gens) (d':=s.drawn) (ch:=[it]) (fun b hb=>?_) (fun b o _ _ hc e _=>k b o (fun z=>hc (by simp[z])) e) (fun b o _ _ hc e _=>⟨o.slots,k b o (fun z=>hc (by simp[z])) e⟩) (fun _ _ _ _ n=>n)
  (fun b o hc e=>⟨o,k b o (fun z=>hc (by simp[z])) e⟩) (fun _ _ e=>e) (fun _ _ _ e=>e) (fun b ps e=>⟨#[],by rw[e];simp⟩) (fun m hm=>?_) (fun b u e=>?_) I.bare
 ·have e:b=it:=by simpa using hb
  subst e
  exact⟨h1,hL,h2,h3⟩
 ·obtain⟨o,es,ep,ho,r⟩:=hm
  exact⟨o,es,ep,k _ o (Ne.symm hL) ho,r⟩
 ·refine (I.hok b u e).qX (fun c v hc q=>k c v ?_ q) (fun _ q=>q) fun _ _ q=>q
  rcases hc with z|z
  ·rw[z];exact nit b u e
  ·exact nit c _ z
theorem Inv.tok(I:Inv X pins σ H s)(t:Nat):Inv X pins σ H {s with toks:=t}:=I.un (h':=s.heap) (t':=t) Un.refl I.hok
theorem Inv.kept{t':Nat}(I:Inv X pins σ H s)(k:∀b u,s.heap.get? b=some u->h'.get? b=some u):Inv X pins σ H {s with heap:=h',toks:=t'}:=I.un (Un.kept k) (I.hok.kept k)
theorem Inv.laid{a:Addr}{o:HO}{t':Nat}(I:Inv X pins σ H s)(k:∀b u,s.heap.get? b=some u->h'.get? b=some u)(hp:s.heap.objs.size<=a)(new:jU X.prog X.w (upd H a o) h' a o) :
  Inv X pins σ (upd H a o) {s with heap:=h',toks:=t'}:=I.un (Un.laid k hp (I.hok.fresh hp)) (I.hok.laid k hp new)
theorem Inv.write{x e:Addr}{o:HO}{t':Nat}(I:Inv X pins σ H s)(mu:Mut (H x))(he:e=x\/H e=some (.own x))(k:∀b u,b≠e->s.heap.get? b=some u->h'.get? b=some u)(heo:∃u,h'.get? e=some u)
  (new:jU X.prog X.w (upd H x o) h' x o):Inv X pins σ (upd H x o) {s with heap:=h',toks:=t'}:=I.un (Un.write mu he k heo) (I.hok.write mu he k heo new)
theorem Inv.Ir{pins':List (Addr×Obj)}(I:Inv X pins σ H s)(h:∀p∈pins',s.heap.get? p.1=some p.2/\H p.1=none/\p.1≠X.env.locals/\p.1 ∉ X.fs/\∀v,p.2.data≠.cell v):Inv X pins' σ H s:=
 ⟨I.ok,I.os,I.bare,I.base,I.loc,I.cell,I.free,I.mv,fun p hp=>(List.mem_append.mp hp).elim (fun z=>I.pin p (mem_append_left _ z)) (h p),I.hok,I.len⟩
theorem Es{N:List Str}(hN:N.Nodup){i j:Nat}{x:Str}(a:N[i]? = some x)(b:N[j]? = some x):i=j:=by
 obtain⟨h1,e1⟩:=List.getElem?_eq_some_iff.mp a
 obtain⟨h2,e2⟩:=List.getElem?_eq_some_iff.mp b
 exact (List.getElem_inj hN).mp (e1.trans e2.symm)
theorem JA{M:Model}{A:Around}{E:Value->Shared->Prop}{i:Nat}{x:Str}{v:V}{u:Value}{Q:Unit->Shared->Prop}(I:Inv X pins σ H s)(hN:X.N.Nodup)(hi:X.N[i]? = some x)(hx:Loc X.env.scope x)(r:RelV v u)
  (h:∀s',Inv X pins (σ.set i (some v)) H s'->(∃a,Heap.SameBut a s.heap s'.heap/\(a=X.env.locals\/X.env.cells.lookup x=some a))->Q () s') (hf:X.fn x=true\/X.env.scope.names.lookup x=some .local:=by first|exact .inl rfl|exact .inr rfl|assumption):wpAny M A (storeName X.env x u) Q E s:=by
 obtain⟨m,hn,hl⟩:=id I.loc
 have hcls:(X.env.scope.kind==.class || (X.env.scope.kind==.module&&X.env.locals != X.env.globals))=false:=by rw[I.ok.kind];rfl
 have wr:i<σ.length:=by rw[I.len];exact (List.getElem?_eq_some_iff.mp hi).1
 have cne:=I.cne
 have tracked:∀{a:Addr} {h':Heap},(∃o,s.heap.get? a=some o/\H a=none)->Heap.SameBut a s.heap h'->HOk X.prog X.w H h':=fun {a h'} ha hs b ob e=>by
  obtain⟨_,_,hfree⟩:=ha
  refine (I.hok b ob e).qX (fun c w' hc q=>(hs.2 c ?_).trans q) (fun _ q=>q) fun _ _ q=>q
  rintro rfl
  rcases hc with rfl|hc
  ·rw[hfree] at e;cases e
  ·rw[hfree] at hc;cases hc
 rcases hx with hk|hk
 ·refine wpAny_storeName_local hk hn (fun h' hn' hs=>?_) hcls
  obtain⟨oL,_,_,hoL,_⟩:=id hn
  refine h _ ⟨I.ok,I.os,I.bare,⟨fun b o e n hb hx=>?_,fun b o e n hb hx=>?_,I.base.free,fun b o e hx=>?_,I.base.wW,I.base.uI,I.base.uA⟩,⟨_,hn',fun j y v' e1 e2 e3=>?_⟩,fun y c e=>?_,I.free,I.mv,fun p hp=>?_,tracked ⟨oL,hoL,I.free⟩ hs,by simpa using I.len⟩ ⟨_,hs,.inl rfl⟩
  ·exact (hs.2 b (ne_of_lt (lt_of_lt_of_le (Heap.lt_size e) I.ok.above))).trans (I.base.keep b o e n hb hx)
  ·obtain⟨sl,e1⟩:=I.base.slot b o e n hb hx
   exact⟨sl,(hs.2 b (ne_of_lt (lt_of_lt_of_le (Heap.lt_size e) I.ok.above))).trans e1⟩
  ·obtain⟨o',e1⟩:=I.base.there b o e hx
   exact⟨o',(hs.2 b (ne_of_lt (lt_of_lt_of_le (Heap.lt_size e) I.ok.above))).trans e1⟩
  ·by_cases hj:j=i
   ·subst hj
    rw[hi] at e1;cases e1
    rw[List.getElem?_set_self wr] at e2
    cases e2
    exact⟨u,r,.inl ⟨hk,by simp⟩⟩
   ·rw[List.getElem?_set_ne (Ne.symm hj)] at e2
    obtain⟨u',r',q⟩:=hl j y v' e1 e2 e3
    refine⟨u',r',?_⟩
    rcases q with ⟨k,e⟩|⟨k,c,e,z⟩
    ·refine .inl ⟨k,?_⟩
     have:y≠x:=fun e=>hj (Es hN e1 (e▸hi))
     simp[this,e]
    ·exact .inr ⟨k,c,e,z.sameBut hs (cne y c e)⟩
  ·obtain⟨w',z⟩:=I.cell y c e
   exact⟨w',z.sameBut hs (cne y c e)⟩
  ·obtain⟨e,n,ne,nf,d⟩:=I.pin p hp
   exact⟨(hs.2 p.1 ne).trans e,n,ne,nf,d⟩
 ·have hfn:X.fn x=true:=by
   rcases hf with z|z
   ·exact z
   ·rw[z] at hk;cases hk
  obtain⟨c,hc⟩:=I.ok.has x (.inl hk)
  obtain⟨w',z⟩:=I.cell x c hc
  refine wpAny_storeName_cell I.ok.kind hk hc z (fun h' hc' hs=>?_)
  obtain⟨oc,hoc,hocd⟩:=id z
  refine h {s with heap:=h'} ⟨I.ok,I.os,I.bare,⟨fun b o e n hb hx=>?_,fun b o e n hb hx=>?_,I.base.free,fun b o e hx=>?_,I.base.wW,I.base.uI,I.base.uA⟩,⟨m,hn.sameBut hs (Ne.symm (cne x c hc)),fun j y v' e1 e2 e3=>?_⟩,fun y c' e=>?_,I.free,I.mv,fun p hp=>?_,tracked ⟨oc,hoc,I.mv x c hc⟩ hs,by simpa using I.len⟩ ⟨c,hs,.inr hc⟩
  ·exact (hs.2 b (ne_of_lt (lt_of_lt_of_le (Heap.lt_size e) (I.ok.cab x c hfn hc)))).trans (I.base.keep b o e n hb hx)
  ·obtain⟨sl,e1⟩:=I.base.slot b o e n hb hx
   exact⟨sl,(hs.2 b (ne_of_lt (lt_of_lt_of_le (Heap.lt_size e) (I.ok.cab x c hfn hc)))).trans e1⟩
  ·obtain⟨o',e1⟩:=I.base.there b o e hx
   exact⟨o',(hs.2 b (ne_of_lt (lt_of_lt_of_le (Heap.lt_size e) (I.ok.cab x c hfn hc)))).trans e1⟩
  ·by_cases hj:j=i
   ·subst hj
    rw[hi] at e1;cases e1
    rw[List.getElem?_set_self wr] at e2
    cases e2
    exact⟨u,r,.inr ⟨.inl hk,c,hc,hc'⟩⟩
   ·rw[List.getElem?_set_ne (Ne.symm hj)] at e2
    obtain⟨u',r',q⟩:=hl j y v' e1 e2 e3
    refine⟨u',r',?_⟩
    rcases q with q|⟨k,c',e,z'⟩
    ·exact .inl q
    ·refine .inr ⟨k,c',e,z'.sameBut hs ?_⟩
     rintro rfl
     exact hj (Es hN e1 (I.ok.inj _ _ _ e hc▸hi))
  ·by_cases hcc:c'=c
   ·subst hcc;exact⟨_,hc'⟩
   ·obtain⟨w2,z2⟩:=I.cell y c' e
    exact⟨w2,z2.sameBut hs hcc⟩
  ·obtain⟨e,n,ne,nf,d⟩:=I.pin p hp
   refine⟨(hs.2 p.1 ?_).trans e,n,ne,nf,d⟩
   intro q
   rw[q,hoc] at e
   have q':oc=p.2:=Option.some.inj e
   exact d w' (by rw[<- q'];exact hocd)
theorem mn{M:Model}{A:Around}{E:Value->Shared->Prop}{i:Nat}{x:Str}{v:V}{u:Value}{Q:Unit->Shared->Prop}(I:Inv X pins σ H s)(hN:X.N.Nodup)(hi:X.N[i]? = some x)(hx:Loc X.env.scope x)(r:RelV v u)
  (h:∀s',Inv X pins (σ.set i (some v)) H s'->Q () s') (hf:X.fn x=true\/X.env.scope.names.lookup x=some .local:=by first|exact .inl rfl|exact .inr rfl|assumption):wpAny M A (storeName X.env x u) Q E s:=
 JA I hN hi hx r (fun s' I' _=>h s' I') hf
theorem Inv.AK{s':Shared}{ch:List Addr}(I:Inv X pins σ H s)(ho:s'.os=s.os)(u:Un (frs X.stack) ch H H' s.heap s'.heap)(hok:HOk X.prog X.w H' s'.heap)(hg:AllBare s'.gens)
  (hch:∀b∈ch,(b∈X.ex\/X.gV.heap.objs.size<=b)/\b≠X.env.locals/\(∀x c,X.env.cells.lookup x=some c->c≠b)/\∀p∈X.pn++pins,p.1≠b):Inv X pins σ H' s':=by
 obtain⟨h',g',d',t',o'⟩:=s'
 have e:o'=s.os:=ho
 subst e
 exact I.call (g':=g') (t':=t') (d':=d') u hok hg hch
end
noncomputable abbrev XK:=Value->Option Addr->Hp->Prop
noncomputable abbrev St:=List (Option V)
noncomputable abbrev VK:=V->Hp->Prop
noncomputable abbrev TE:=St->Hp->VK->Prop
noncomputable abbrev TT:=St->Hp->(Bool->Hp->Prop)->Prop
noncomputable abbrev TA:=St->Hp->(List V->Hp->Prop)->Prop
structure Ends where
 nx:St->Hp->Prop
 rt:VK
 bk:St->Hp->Prop:=fun _ _=>False
 ct:St->Hp->Prop:=fun _ _=>False
noncomputable abbrev TS:=Ends->St->Hp->Prop
noncomputable def EP(X:Cx)(pins:List (Addr×Obj))(σ:St)(Q:VK)(u:Value)(s':Shared):Prop:=∃v H',Inv X pins σ H' s'/\RelV v u/\Q v H'
noncomputable def TP(X:Cx)(pins:List (Addr×Obj))(σ:St)(Q:Bool->Hp->Prop)(b:Bool)(s':Shared):Prop:=∃H',Inv X pins σ H' s'/\Q b H'
noncomputable def AP(X:Cx)(pins:List (Addr×Obj))(σ:St)(Q:List V->Hp->Prop)(us:List Value)(s':Shared):Prop:=∃vs H',Inv X pins σ H' s'/\Vals vs us/\Q vs H'
noncomputable def SP(X:Cx)(pins:List (Addr×Obj))(D:Ends)(f:Flow)(s':Shared):Prop:=
 match f with
 |.next=>∃bn H',Inv X pins bn H' s'/\D.nx bn H'
 |.brk=>∃bn H',Inv X pins bn H' s'/\D.bk bn H'
 |.cont=>∃bn H',Inv X pins bn H' s'/\D.ct bn H'
 |.ret u=>∃v bn H',Inv X pins bn H' s'/\RelV v u/\D.rt v H'
noncomputable def PE(X:Cx)(e:Expr)(t:TE):Prop:=
 ∀(pins:List (Addr×Obj)) (s:Shared) (σ:St) (H:Hp) (Q:VK),Inv X pins σ H s->t σ H Q->wpAny (model X.prog X.w) X.A (eval e X.env) (EP X pins σ Q) X.xe s
noncomputable def PT(X:Cx)(e:Expr)(t:TT):Prop:=
 ∀(pins:List (Addr×Obj)) (s:Shared) (σ:St) (H:Hp) (Q:Bool->Hp->Prop),Inv X pins σ H s->t σ H Q->wpAny (model X.prog X.w) X.A (isTrue e X.env (eval e X.env)) (TP X pins σ Q) X.xe s
noncomputable def PW(X:Cx)(e:Expr)(t:TT):Prop:=
 ∀(whole:Sem Value) (pins:List (Addr×Obj)) (s:Shared) (σ:St) (H:Hp) (Q:Bool->Hp->Prop),Inv X pins σ H s->t σ H Q->wpAny (model X.prog X.w) X.A (isTrue e X.env whole) (TP X pins σ Q) X.xe s
theorem PW.pt{X:Cx}{e:Expr}{t:TT}(h:PW X e t):PT X e t:=h _
noncomputable def PA(X:Cx)(es:List Expr)(t:TA):Prop:=
 ∀(pos:Pos) (pins:List (Addr×Obj)) (s:Shared) (σ:St) (H:Hp) (Q:List V->Hp->Prop),Inv X pins σ H s->t σ H Q->wpAny (model X.prog X.w) X.A (spliced (backTo pos (starEach es X.env))) (AP X pins σ Q) X.xe s
noncomputable def PS(X:Cx)(st:Stmt)(t:TS):Prop:=
 ∀(pins:List (Addr×Obj)) (s:Shared) (σ:St) (H:Hp) (D:Ends),Inv X pins σ H s->t D σ H->wpAny (model X.prog X.w) X.A (exec st X.env) (SP X pins D) X.xe s
noncomputable def PSs(X:Cx)(st:List Stmt)(t:TS):Prop:=
 ∀(pins:List (Addr×Obj)) (s:Shared) (σ:St) (H:Hp) (D:Ends),Inv X pins σ H s->t D σ H->wpAny (model X.prog X.w) X.A (execs st X.env) (SP X pins D) X.xe s
theorem thn{α:Type}{t:Sem α}{Q Q':α->Shared->Prop}{M:Model}{A:Around}{E:Value->Shared->Prop}{s:Shared}(h:wpAny M A t Q E s)(hQ:∀a s,Q a s->Q' a s):wpAny M A t Q' E s:=wpAny_mono h hQ fun _ _ x=>x
end L2
namespace L2
open PySem PySem.Spec PyProof.Rows
section
variable {X:Cx}
theorem bin{a b:Expr}{ta tb:TE}(ha:PE X a ta)(hb:PE X b tb){pins:List (Addr×Obj)}{s:Shared}{σ:St}{H:Hp}{R:V->V->Hp->Prop}(I:Inv X pins σ H s)(h:ta σ H fun x H1=>tb σ H1 fun y H2=>R x y H2)
  {α:Type} {Q:α->Shared->Prop} {f:Value->Value->Sem α}
  (hf:∀v u s2 x y H2,Inv X pins σ H2 s2->RelV x v->RelV y u->R x y H2->wpAny (model X.prog X.w) X.A (f v u) Q X.xe s2) :
  wpAny (model X.prog X.w) X.A (eval a X.env) (fun v ca=>wpAny (model X.prog X.w) X.A (eval b X.env) (fun u gl=>wpAny (model X.prog X.w) X.A (f v u) Q X.xe gl) X.xe ca) X.xe s:=by
 refine thn (ha pins s σ H _ I h) fun v s1 hq0=>?_
 obtain⟨x,H1,I1,r1,q1⟩:=hq0
 refine thn (hb pins s1 σ H1 _ I1 q1) fun u s2 hq0=>?_
 obtain⟨y,H2,I2,r2,q2⟩:=hq0
 exact hf v u s2 x y H2 I2 r1 r2 q2
noncomputable def Qy(i:Nat):TE:=fun σ H Q=>∃v,σ[i]? = some (some v)/\Q v H
noncomputable def tC(v:V):TE:=fun _ H Q=>Q v H
theorem PF{i:Nat}{x:Str}{pos:Pos}(hN:X.N[i]? = some x)(hv:Vis X.env.scope x)(hd:(x==("__debug__":Str))=false:=by decide)(hcd:(x==("__classdict__":Str))=false:=by decide):PE X (.Name x pos) (Qy i):=by
 intro pins s σ H Q I h
 obtain⟨v,e,h⟩:=h
 obtain⟨m,hn,hl⟩:=I.loc
 obtain⟨u,r,l⟩:=hl i x v hN e hv
 have fin:EP X pins σ Q u s:=⟨v,H,I,r,h⟩
 rcases l with ⟨hk,hm⟩|⟨hk,c,hc,hcell⟩
 ·exact wpAny_Name (wpAny_loadName_local I.ok.kind hk hn hm fin) hd
 ·rcases hk with hk|hk
  ·exact wpAny_Name (wpAny_loadName_cell I.ok.kind hk hc hcell fin) hd
  ·exact wpAny_Name (wpAny_loadName_free I.ok.kind hk hc hcell fin hcd) hd
theorem Ow{i j pos}:PE X (.Constant (.int i) j pos) (tC (.int i)):=fun _ _ _ H _ I h=>wpAny_Constant_int ⟨.int i,H,I.tok _,⟨_,rfl⟩,h⟩
theorem Rl{b j pos}:PE X (.Constant (.bool b) j pos) (tC (.bl b)):=fun _ _ _ H _ I h=>Constant_bool ⟨.bl b,H,I,rfl,h⟩
theorem OH{j pos}:PE X (.Constant .none j pos) (tC .non):=fun _ _ _ H _ I h=>Constant_none ⟨.non,H,I,rfl,h⟩
noncomputable def Gl(X:Cx)(x:Str):Prop:=X.env.kindOf x=some .globalImplicit
theorem HL{E:Value->Shared->Prop}{pins:List (Addr×Obj)}{s:Shared}{σ:St}{H:Hp}{x:Str}{u:Value}{pos:Pos}{Q:Value->Shared->Prop}(I:Inv X pins σ H s)(hg:Gl X x)(hm:X.mg x=some u)(h:Q u s)
  (hd:(x==("__debug__":Str))=false:=by decide):wpAny (model X.prog X.w) X.A (eval (.Name x pos) X.env) Q E s:=
 Calls.Name_function_global I.ok.kind hg (Calls.loadGlobal_global (by rw[I.ok.glob];exact I.mod.glob.keeps I.bk) hm h) hd
theorem pA{E:Value->Shared->Prop}{pins:List (Addr×Obj)}{s:Shared}{σ:St}{H:Hp}{x:Str}{u:Value}{pos:Pos}{Q:Value->Shared->Prop}(I:Inv X pins σ H s)(hg:Gl X x)(hm:X.mg x=none)(hv:bootBuiltins x=some u)(h:Q u s)
  (hn:x ≠ "__name__":=by decide) (hd:(x==("__debug__":Str))=false:=by decide):wpAny (model X.prog X.w) X.A (eval (.Name x pos) X.env) Q E s:=by
 obtain⟨mb,h1,h2⟩:=I.mod.blt
 exact Calls.Name_function_global I.ok.kind hg (Calls.loadGlobal_builtin (by rw[I.ok.glob];exact I.mod.glob.keeps I.bk) hm (by rw[I.ok.blt];exact h1.keeps I.bk) ((h2 x hn).trans hv) h) hd
theorem Nb{x:Str}{v:V}{u:Value}{pos:Pos}(hg:Gl X x)(hm:X.mg x=some u)(r:RelV v u)(hd:(x==("__debug__":Str))=false:=by decide):PE X (.Name x pos) (tC v):=
 fun _ _ _ H _ I h=>HL I hg hm ⟨v,H,I,r,h⟩ hd
theorem NI{x:Str}{v:V}{u:Value}{pos:Pos}(hg:Gl X x)(hm:X.mg x=none)(hv:bootBuiltins x=some u)(r:RelV v u)(hn:x ≠ "__name__":=by decide)(hd:(x==("__debug__":Str))=false:=by decide):PE X (.Name x pos) (tC v):=
 fun _ _ _ H _ I h=>pA I hg hm hv ⟨v,H,I,r,h⟩ hn hd
variable {a b:Expr}{ta tb:TE}{pos:Pos}
noncomputable def PC(X:Cx)(op:CmpOp)(a b:Expr)(t:TE):Prop:=
 ∀(pins:List (Addr×Obj)) (s:Shared) (σ:St) (H:Hp) (Q:VK),Inv X pins σ H s->t σ H Q ->
  wpAny (model X.prog X.w) X.A (eval a X.env) (fun v ca=>wpAny (model X.prog X.w) X.A (eval b X.env) (fun u gl=>wpAny (model X.prog X.w) X.A (compareOp op v u) (EP X pins σ Q) X.xe gl) X.xe ca) X.xe s
theorem KZ(b:Expr){op:CmpOp}(h:op≠.In)(h2:op≠.NotIn):behindInMarks op b=false:=by
 have e1:(op==CmpOp.In)=false:=by cases op<;>first|rfl|exact absurd rfl h
 have e2:(op==CmpOp.NotIn)=false:=by cases op<;>first|rfl|exact absurd rfl h2
 cases b<;>simp[behindInMarks,e1,e2]
noncomputable def tB(t:TE):TT:=fun σ H Q=>t σ H fun x H1=>∃c,x = .bl c/\Q c H1
theorem R1{op:CmpOp}{t:TE}(h:PC X op a b t)(h1:behindInMarks op b=false:=by first|exact KZ _ ⋯ ⋯|rfl):PT X (.Compare a [op] [b] pos) (tB t):=by
 intro pins s σ H Q I hw
 refine wpAny_isTrue_Compare1 (thn (h pins s σ H _ I hw) fun v s1 h1=>thn h1 fun u s2 h2=>thn h2 fun c s3 hq0=>?_) h1
 obtain⟨x,H1,I1,r1,q1⟩:=hq0
 obtain⟨d,rfl,q⟩:=q1
 cases r1
 exact wpAny_truthy_bool ⟨H1,I1,q⟩
theorem Pe{e:Expr}{t:TE}(h:PE X e t)(he:∀whole,isTrue e X.env whole=(do let v <- whole;standAt e.pos;holding [v] (truthy v)):=by intro _;rfl):PT X e (tB t):=by
 intro pins s σ H Q I hw
 refine isTrue_plain (thn (h pins s σ H _ I hw) fun v s1 hq0=>?_) (he _)
 obtain⟨x,H1,I1,r1,q1⟩:=hq0
 obtain⟨d,rfl,q⟩:=q1
 cases r1
 exact wpAny_truthy_bool ⟨H1,I1,q⟩
variable {tA tB':TT}{rest:List Expr}
noncomputable def RZ(t u:TT):TT:=fun σ H Q=>t σ H fun c H1=>if c=true then u σ H1 Q else Q false H1
noncomputable def tOr(t u:TT):TT:=fun σ H Q=>t σ H fun c H1=>if c=true then Q true H1 else u σ H1 Q
noncomputable def Sm(t:TT):TT:=fun σ H Q=>t σ H fun c H1=>Q (!c) H1
theorem pw_and1(ha:PT X a tA):PW X (.BoolOp .And [a] pos) tA:=by
 intro wh pins s σ H Q I h
 refine isTrue_and (thn (ha pins s σ H Q I h) fun c s1 e=>?_)
 cases c with
 |true=>exact isTrue_and_nil e
 |false=>exact e
theorem pw_or1(ha:PT X a tA):PW X (.BoolOp .Or [a] pos) tA:=by
 intro wh pins s σ H Q I h
 refine isTrue_or (thn (ha pins s σ H Q I h) fun c s1 e=>?_)
 cases c with
 |false=>exact isTrue_or_nil e
 |true=>exact e
theorem pw_and(ha:PT X a tA)(hb:PW X (.BoolOp .And (b::rest) pos) tB'):PW X (.BoolOp .And (a::b::rest) pos) (RZ tA tB'):=by
 intro wh pins s σ H Q I h
 refine isTrue_and (thn (ha pins s σ H _ I h) fun c s1 hq0=>?_)
 obtain⟨H1,I1,q1⟩:=hq0
 cases c with
 |true=>exact hb wh pins s1 σ H1 Q I1 q1
 |false=>exact⟨H1,I1,q1⟩
theorem pw_or(ha:PT X a tA)(hb:PW X (.BoolOp .Or (b::rest) pos) tB'):PW X (.BoolOp .Or (a::b::rest) pos) (tOr tA tB'):=by
 intro wh pins s σ H Q I h
 refine isTrue_or (thn (ha pins s σ H _ I h) fun c s1 hq0=>?_)
 obtain⟨H1,I1,q1⟩:=hq0
 cases c with
 |true=>exact⟨H1,I1,q1⟩
 |false=>exact hb wh pins s1 σ H1 Q I1 q1
theorem PJ(ha:PT X a tA):PT X (.UnaryOp .Not a pos) (Sm tA):=by
 intro pins s σ H Q I h
 exact isTrue_not (ha pins s σ H (fun c H1=>Q (!c) H1) I h)
noncomputable def RM(ta tb:TE):TE:=fun σ H Q=>ta σ H fun x H1=>∃c,x = .bl c/\if c=true then tb σ H1 Q else Q (.bl false) H1
noncomputable def Qv(ta:TE):TE:=fun σ H Q=>ta σ H fun x H1=>∃c,x = .bl c/\Q (.bl (!c)) H1
theorem PR{op}{t:TE}(h:PE X a t):PE X (.BoolOp op [a] pos) t:=fun pins s σ H Q I hw=>BoolOp_one (h pins s σ H Q I hw)
theorem OE(ha:PE X a ta)(hb:PE X (.BoolOp .And (b::rest) pos) tb):PE X (.BoolOp .And (a::b::rest) pos) (RM ta tb):=by
 intro pins s σ H Q I h
 refine BoolOp_and (thn (ha pins s σ H _ I h) fun v s1 hq0=>?_)
 obtain⟨x,H1,I1,r1,q1⟩:=hq0
 obtain⟨c,rfl,q1⟩:=q1
 cases r1
 refine wpAny_truthy_bool ?_
 cases c with
 |true=>exact hb pins s1 σ H1 Q I1 q1
 |false=>exact⟨.bl false,H1,I1,rfl,q1⟩
theorem O6(ha:PE X a ta):PE X (.UnaryOp .Not a pos) (Qv ta):=by
 intro pins s σ H Q I h
 refine UnaryOp_ (thn (ha pins s σ H _ I h) fun v s1 hq0=>?_)
 obtain⟨x,H1,I1,r1,q1⟩:=hq0
 obtain⟨c,rfl,q1⟩:=q1
 cases r1
 exact not_of (wpAny_truthy_bool ⟨.bl (!c),H1,I1,rfl,q1⟩)
noncomputable def tIf(t:TT)(ta tb:TE):TE:=fun σ H Q=>t σ H fun c H1=>if c=true then ta σ H1 Q else tb σ H1 Q
theorem JZ{c:Expr}(hc:PT X c tA)(ha:PE X a ta)(hb:PE X b tb):PE X (.IfExp c a b pos) (tIf tA ta tb):=by
 intro pins s σ H Q I h
 refine wpAny_IfExp (thn (hc pins s σ H _ I h) fun d s1 hq0=>?_)
 obtain⟨H1,I1,q1⟩:=hq0
 cases d with
 |true=>exact ha pins s1 σ H1 Q I1 q1
 |false=>exact hb pins s1 σ H1 Q I1 q1
end
end L2
namespace L2
open PySem PySem.Spec PyProof.Rows
noncomputable def SqL(K:PySem.W.Frag)(H:Hp)(a:Addr)(xs:List V):Prop:=
 Rd H a (.lst xs) \/
  ∃(o:Obj) (its:Array Value) (n:Nat),K.lookup a=some o/\o.cls = .type "list"/\o.dict=none/\o.data = .seq its n/\its.size<=sizeLine/\Vals xs its.toList
noncomputable def SqT(K:PySem.W.Frag)(H:Hp)(a:Addr)(xs:List V):Prop:=
 Rd H a (.tup xs) \/
  ∃(o:Obj) (its:Array Value) (n:Nat),K.lookup a=some o/\o.cls = .type "tuple"/\o.data = .seq its n/\its.size<=sizeLine/\Vals xs its.toList
noncomputable def R8:Value->Option V
 |.none=>some .non
 |.bool b=>some (.bl b)
 |.int i _=>some (.int i)
 |.str x _=>some (.str x)
 |.bytes b _=>some (.byt b)
 |.float b _=>some (.flt b)
 |.ref a=>some (.ref a)
 |.type n=>some (.ty n)
 |_=>none
theorem RelV.abs{x:V}{u:Value}(r:RelV x u):R8 u=some x:=by
 cases x with
 |non=>cases r;rfl
 |bl _=>cases r;rfl
 |int _=>obtain⟨t,rfl⟩:=r;rfl
 |str _=>obtain⟨t,rfl⟩:=r;rfl
 |byt _=>obtain⟨t,rfl⟩:=r;rfl
 |flt _=>obtain⟨t,rfl⟩:=r;rfl
 |ref _=>cases r;rfl
 |ty _=>cases r;rfl
theorem RelV.inj{x y:V}{u:Value}(r:RelV x u)(q:RelV y u):x=y:=Option.some.inj (r.abs.symm.trans q.abs)
theorem Vals.inj:∀{xs ys:List V} {us:List Value},Vals xs us->Vals ys us->xs=ys
 |_,_,_,.nil,.nil=>rfl
 |_,_,_,.cons r t,.cons r' t'=>by rw[r.inj r',Vals.inj t t']
section
variable {X:Cx}{pins:List (Addr×Obj)}{σ:St}{H:Hp}{s:Shared}{a:Addr}{xs ys:List V}
theorem SqL.of{K:PySem.W.Frag}(h:H a=some (.lst xs)):SqL K H a xs:=.inl (.inl h)
theorem SqT.of{K:PySem.W.Frag}(h:H a=some (.tup xs)):SqT K H a xs:=.inl (.inl h)
theorem Inv.list(I:Inv X pins σ H s)(h:SqL X.K H a xs):∃its:List Value,Vals xs its/\PlainL s.heap a its.toArray/\xs.length<=sizeLine:=by
 rcases h with h|⟨o,its,n,hk,hc,hd,hs,hz,r⟩
 ·obtain⟨z,its,n,r,e⟩:=h.ok I.hok
  exact⟨its,r,⟨_,n,e,rfl,rfl,rfl⟩,z⟩
 ·refine⟨its.toList,r,⟨o,n,I.kIn a o hk,hc,hd,by simpa using hs⟩,?_⟩
  have e:=r.length
  simp only[Array.length_toList] at e
  omega
theorem Inv.tuple(I:Inv X pins σ H s)(h:SqT X.K H a xs):∃its:List Value,Vals xs its/\IsTup s.heap a its.toArray/\xs.length<=sizeLine:=by
 rcases h with h|⟨o,its,n,hk,hc,hs,hz,r⟩
 ·obtain⟨z,its,r,p⟩:=h.ok I.hok
  exact⟨its,r,p,z⟩
 ·refine⟨its.toList,r,⟨o,I.kIn a o hk,hc,n,by simpa using hs⟩,?_⟩
  have e:=r.length
  simp only[Array.length_toList] at e
  omega
theorem Inv.uf(I:Inv X pins σ H s)(h:SqL X.K H a xs)(h':SqL X.K H a ys):xs=ys:=by
 obtain⟨its,r,⟨o,n,e,_,_,d⟩,_⟩:=I.list h
 obtain⟨its',r',⟨o',n',e',_,_,d'⟩,_⟩:=I.list h'
 rw[e] at e';cases e'
 rw[d] at d'
 injection d' with d1 _
 have:its=its':=by simpa using congrArg Array.toList d1
 subst this
 exact r.inj r'
theorem Inv.Jj(I:Inv X pins σ H s)(h:SqT X.K H a xs)(h':SqT X.K H a ys):xs=ys:=by
 obtain⟨its,r,⟨o,e,_,n,d⟩,_⟩:=I.tuple h
 obtain⟨its',r',⟨o',e',_,n',d'⟩,_⟩:=I.tuple h'
 rw[e] at e';cases e'
 rw[d] at d'
 injection d' with d1 _
 have:its=its':=by simpa using congrArg Array.toList d1
 subst this
 exact r.inj r'
end
noncomputable abbrev Cx.zN(X:Cx)(E:Value->Shared->Prop):Cx:={X with xe:=E}
noncomputable abbrev Cx.nox(X:Cx):Cx:=X.zN fun _ _=>False
theorem Cx.Ok.zN{X:Cx}(ok:X.Ok)(E:Value->Shared->Prop):(X.zN E).Ok:=
 ⟨ok.mod,ok.kind,ok.glob,ok.blt,ok.above,ok.inj,ok.has,ok.cab,ok.hd,ok.qt,ok.frames,ok.stk,ok.exf,ok.bs,ok.bsz,ok.EV,ok.MJ,ok.xR,ok.frf⟩
theorem Cx.Ok.o9{X:Cx}{E:Value->Shared->Prop}(ok:(X.zN E).Ok):X.Ok:=
 ⟨ok.mod,ok.kind,ok.glob,ok.blt,ok.above,ok.inj,ok.has,ok.cab,ok.hd,ok.qt,ok.frames,ok.stk,ok.exf,ok.bs,ok.bsz,ok.EV,ok.MJ,ok.xR,ok.frf⟩
section
variable {X:Cx}{pins:List (Addr×Obj)}{σ:St}{H:Hp}{s:Shared}{E:Value->Shared->Prop}
theorem Inv.zN(I:Inv X pins σ H s)(E:Value->Shared->Prop):Inv (X.zN E) pins σ H s:=⟨I.ok.zN E,I.os,I.bare,I.base,I.loc,I.cell,I.free,I.mv,I.pin,I.hok,I.len⟩
theorem Inv.o9(I:Inv (X.zN E) pins σ H s):Inv X pins σ H s:=⟨I.ok.o9,I.os,I.bare,I.base,I.loc,I.cell,I.free,I.mv,I.pin,I.hok,I.len⟩
theorem SP.o9{D:Ends}{f:Flow}{s':Shared}(h:SP (X.zN E) pins D f s'):SP X pins D f s':=by
 cases f with
 |next=>obtain⟨bn,H',I,q⟩:=h;exact⟨bn,H',I.o9,q⟩
 |brk=>obtain⟨bn,H',I,q⟩:=h;exact⟨bn,H',I.o9,q⟩
 |cont=>obtain⟨bn,H',I,q⟩:=h;exact⟨bn,H',I.o9,q⟩
 |ret u=>obtain⟨v,bn,H',I,r,q⟩:=h;exact⟨v,bn,H',I.o9,r,q⟩
theorem PSs.nox{st:List Stmt}{t:TS}(h:PSs X.nox st t):PSs X st t:=fun pins s σ H D I hw=>
 wpAny_mono (h pins s σ H D (I.zN _) hw) (fun _ _ q=>q.o9) fun _ _ z=>False.elim z
end
section
variable {X:Cx}{st:Stmt}{rest:List Stmt}{t u:TS}{e:Expr}{te:TE}{pos:Pos}
noncomputable def Rr:TS:=fun D σ H=>D.nx σ H
noncomputable def RD(t u:TS):TS:=fun D σ H=>t {D with nx:=u D} σ H
theorem NB:PSs X [] Rr:=fun _ _ σ H _ I h=>wpAny_execs_nil ⟨σ,H,I,h⟩
theorem J7(h1:PS X st t)(h2:PSs X rest u):PSs X (st::rest) (RD t u):=by
 intro pins s σ H D I h
 refine wpAny_execs_cons (thn (h1 pins s σ H {D with nx:=u D} I h) fun f s1 q=>?_)
 cases f with
 |next=>
  obtain⟨bn,H',I',q⟩:=q
  exact h2 pins s1 bn H' D I' q
 |ret v=>exact q
 |brk=>exact q
 |cont=>exact q
theorem NQ(h1:PS X st t):PSs X [st] t:=by
 intro pins s σ H D I h
 refine wpAny_execs_cons (thn (h1 pins s σ H D I h) fun f s1 q=>?_)
 cases f with
 |next=>exact wpAny_execs_nil q
 |ret v=>exact q
 |brk=>exact q
 |cont=>exact q
theorem Inv.quiet{pins:List (Addr×Obj)}{σ:St}{H:Hp}{s:Shared}(I:Inv X pins σ H s):interactive X.env=false:=by simp[interactive,I.ok.kind]
noncomputable def Rw(te:TE):TS:=fun D σ H=>te σ H fun _ H1=>D.nx σ H1
theorem NN(he:PE X e te)(hs:swapsWith e none pos.line X.env=pure false:=by rfl):PS X (.Expr e pos) (Rw te):=by
 intro pins s σ H D I h
 exact wpAny_Expr_any (thn (he pins s σ H _ I h) fun v s1 ⟨x,H1,I1,r1,q1⟩=>⟨σ,H1,I1,q1⟩) I.quiet hs
noncomputable def R3(te:TE):TS:=fun D σ H=>te σ H D.rt
theorem Qh(he:PE X e te):PS X (.Return (some e) pos) (R3 te):=by
 intro pins s σ H D I h
 exact wpAny_Return_some (thn (he pins s σ H _ I h) fun v s1 ⟨x,H1,I1,r1,q1⟩=>⟨x,σ,H1,I1,r1,q1⟩)
noncomputable def RY(c:TT)(t u:TS):TS:=fun D σ H=>c σ H fun b H1=>if b=true then t D σ H1 else u D σ H1
theorem RK{c:Expr}{a b:List Stmt}{tc:TT}(hc:PT X c tc)(ha:PSs X a t)(hb:PSs X b u):PS X (.If c a b pos) (RY tc t u):=by
 intro pins s σ H D I h
 refine wpAny_If (thn (hc pins s σ H _ I h) fun d s1 hq0=>?_)
 obtain⟨H1,I1,q1⟩:=hq0
 cases d with
 |true=>exact ha pins s1 σ H1 D I1 q1
 |false=>exact hb pins s1 σ H1 D I1 q1
end
noncomputable abbrev TG:=V->St->Hp->(St->Hp->Prop)->Prop
noncomputable abbrev TGs:=List V->St->Hp->(St->Hp->Prop)->Prop
noncomputable def PG(X:Cx)(target:Expr)(t:TG):Prop:=
 ∀(pins:List (Addr×Obj)) (s:Shared) (σ:St) (H:Hp) (v:V) (u:Value) (Q:St->Hp->Prop),Inv X pins σ H s->RelV v u->t v σ H Q ->
  wpAny (model X.prog X.w) X.A (assign target X.env u) (fun _ s'=>∃bn H',Inv X pins bn H' s'/\Q bn H') X.xe s
noncomputable def PGs(X:Cx)(ts:List Expr)(t:TGs):Prop:=
 ∀(pins:List (Addr×Obj)) (s:Shared) (σ:St) (H:Hp) (vs:List V) (us:List Value) (Q:St->Hp->Prop),Inv X pins σ H s->Vals vs us->t vs σ H Q ->
  wpAny (model X.prog X.w) X.A (assignInOrder ((assignEach ts X.env).map (·.2)) us) (fun _ s'=>∃bn H',Inv X pins bn H' s'/\Q bn H') X.xe s
noncomputable abbrev OY:=V->V->V->Hp->(Hp->Prop)->Prop
noncomputable def Q5(X:Cx)(t:OY):Prop:=
 ∀(pins:List (Addr×Obj)) (s:Shared) (σ:St) (H:Hp) (o i v:V) (ov iv u:Value) (Q:Hp->Prop),Inv X pins σ H s->RelV o ov->RelV i iv->RelV v u->t o i v H Q ->
  wpAny (model X.prog X.w) X.A (setItem ov iv u) (fun _ s'=>∃H',Inv X pins σ H' s'/\Q H') X.xe s
section
variable {X:Cx}{pos:Pos}
noncomputable def Mx(i:Nat):TG:=fun v σ H Q=>Q (σ.set i (some v)) H
theorem NA{i:Nat}{x:Str}(hN:X.N.Nodup)(hi:X.N[i]? = some x)(hx:Loc X.env.scope x)(hf:X.fn x=true\/X.env.scope.names.lookup x=some .local:=by first|exact .inl rfl|exact .inr rfl|assumption):PG X (.Name x pos) (Mx i):=by
 intro pins s σ H v u Q I r h
 exact wpAny_assign_Name (mn I hN hi hx r (fun s' I'=>⟨_,H,I',h⟩) hf)
noncomputable def Sk:TGs:=fun vs σ H Q=>vs=[]/\Q σ H
noncomputable def Rm(t:TG)(u:TGs):TGs:=fun vs σ H Q=>∃v r,vs=v::r/\t v σ H fun bn H'=>u r bn H' Q
theorem MV:PGs X [] Sk:=by
 intro pins s σ H vs us Q I r h
 obtain⟨e,h⟩:=h
 subst e
 cases r
 exact assignInOrder_nil ⟨σ,H,I,h⟩
theorem Lu{e:Expr}{es:List Expr}{t:TG}{u:TGs}(h1:PG X e t)(h2:PGs X es u)
  (hs:(assignEach (e::es) X.env).map (·.2)=assign e X.env::(assignEach es X.env).map (·.2):=by rfl):PGs X (e::es) (Rm t u):=by
 intro pins s σ H vs us Q I r h
 obtain⟨v,vr,e1,h⟩:=h
 subst e1
 cases r with
 |cons r rr=>
  rw[hs]
  refine assignInOrder_cons (thn (h1 pins s σ H _ _ _ I r h) fun _ s1 hq0=>?_)
  obtain⟨tj,H1,I1,q1⟩:=hq0
  exact h2 pins s1 tj H1 _ _ Q I1 rr q1
noncomputable def RV(K:PySem.W.Frag)(n:Nat)(t:TGs):TG:=fun v σ H Q=>∃a xs,v = .ref a/\SqT K H a xs/\xs.length=n/\t xs σ H Q
theorem OZ{es:List Expr}{k:Nat}{t:TGs}{n:Nat}(hc:X.calm=X.calm)(h:PGs X es t)
  (hn:(assignEach es X.env).length=n:=by rfl) (hst:(assignEach es X.env).findIdx? (·.1)=none:=by rfl):PG X (.Tuple es k pos) (RV X.K n t):=by
 intro pins s σ H v u Q I r hw
 obtain⟨a,xs,e1,hq,hl,hw⟩:=hw
 subst e1
 cases r
 obtain⟨its,rv,ht,hz⟩:=I.tuple hq
 refine Ak I.G9 ht (by simp[hn,<- hl,rv.length]) hst fun h' hx=>?_
 have I1:Inv X pins σ H {s with heap:=h'}:=I.kept (t':=s.toks) fun b o e=>hx b o (ne_of_lt (Heap.lt_size e)) e
 exact h pins _ σ H xs _ Q I1 (by simpa using rv) hw
noncomputable def So(to ti:TE)(t:OY):TG:=fun v σ H Q=>to σ H fun o H1=>ti σ H1 fun i H2=>t o i v H2 fun H3=>Q σ H3
theorem O7{o i:Expr}{to ti:TE}{t:OY}(ho:PE X o to)(hi:PE X i ti)(hs:Q5 X t)
  (ha:∀v,assign (.Subscript o i pos) X.env v=(do
   let ov <- holding [v] (eval o X.env)
   let iv <- holding [v,ov] (eval i X.env)
   standAt pos
   holding [v,ov,iv] (setItem ov iv v)
   release [v,ov,iv] []):=by intro _;rfl):PG X (.Subscript o i pos) (So to ti t):=by
 intro pins s σ H v u Q I r h
 rw[ha]
 refine wpAny_bind (wpAny_holding (thn (ho pins s σ H _ I h) fun ov s1 hq0=>?_))
 obtain⟨x,H1,I1,r1,q1⟩:=hq0
 refine wpAny_bind (wpAny_holding (thn (hi pins s1 σ H1 _ I1 q1) fun iv s2 hq0=>?_))
 obtain⟨y,H2,I2,r2,q2⟩:=hq0
 refine wpAny_bind (wpAny_standAt (wpAny_bind (wpAny_holding (thn (hs pins s2 σ H2 x y v ov iv u _ I2 r1 r2 r q2) fun _ s3 hq0=>?_))))
 obtain⟨H3,I3,q3⟩:=hq0
 exact wpAny_release ⟨σ,H3,I3,q3⟩
noncomputable def Pj(te:TE)(g:TG):TS:=fun D σ H=>te σ H fun x H1=>g x σ H1 D.nx
theorem Om{tg e:Expr}{te:TE}{g:TG}(he:PE X e te)(hg:PG X tg g)(hs:swapsWithSole [tg] e pos.line X.env=pure false:=by rfl)(hw:swappedStores [tg] e X.env=pure none:=by rfl)
  (h1:(assignEach [tg] X.env).map (·.2)=[assign tg X.env]:=by rfl):PS X (.Assign [tg] e pos) (Pj te g):=by
 intro pins s σ H D I h
 refine wpAny_Assign_stores (thn (he pins s σ H _ I h) fun v s1 hq0=>?_) hs hw
 obtain⟨x,H1,I1,r1,q1⟩:=hq0
 rw[h1]
 exact thn (hg pins s1 σ H1 x v _ I1 r1 q1) fun _ s2 q=>q
theorem Ou{i:Nat}{x:Str}{e:Expr}{te:TE}{pos':Pos}(hN:X.N.Nodup)(hi:X.N[i]? = some x)(hx:Loc X.env.scope x)(he:PE X e te)(hs:swapsWith e (some (.Name x pos')) pos.line X.env=pure false:=by rfl)(hf:X.fn x=true\/X.env.scope.names.lookup x=some .local:=by first|exact .inl rfl|exact .inr rfl|assumption) :
  PS X (.Assign [.Name x pos'] e pos) (Pj te (Mx i)):=by
 intro pins s σ H D I h
 refine wpAny_Assign_Name (thn (he pins s σ H _ I h) fun v s1 hq0=>?_) hs
 obtain⟨y,H1,I1,r1,q1⟩:=hq0
 exact mn I1 hN hi hx r1 (fun s2 I2=>⟨_,H1,I2,q1⟩) hf
noncomputable def R7(i j:Nat)(ta:TA):TS:=fun D σ H=>ta σ H fun vs H1=>∃v w,vs=[v,w]/\D.nx ((σ.set i (some v)).set j (some w)) H1
theorem Py{i j:Nat}{x y:Str}{a b:Expr}{ta:TA}{px py pt:Pos}{kt k2 pt2}(hc:X.calm=true)(hN:X.N.Nodup)(hi:X.N[i]? = some x)(hj:X.N[j]? = some y)(hij:i≠j)
  (hx:X.env.scope.names.lookup x=some .local) (hy:X.env.scope.names.lookup y=some .local) (ha:PA X [a,b] ta)
  (hw:swappedStores [.Tuple [.Name x px,.Name y py] kt pt] (.Tuple [a,b] k2 pt2) X.env=pure (some [x,y]))
  (hs:swapsWithSole [.Tuple [.Name x px,.Name y py] kt pt] (.Tuple [a,b] k2 pt2) pos.line X.env=pure false:=by rfl) :
  PS X (.Assign [.Tuple [.Name x px,.Name y py] kt pt] (.Tuple [a,b] k2 pt2) pos) (R7 i j ta):=by
 intro pins s σ H D I h
 rw[exec_Assign_arm]
 refine wpAny_bind (wpAny_standAt ?_)
 rw[hs]
 refine wpAny_bind (wpAny_pure ?_)
 rw[if_neg ⋯]
 refine wpAny_bind (Tuple_ (thn (ha _ pins s σ H _ I h) fun us s1 hq0=>?_))
 obtain⟨vs,H1,I1,r1,q1⟩:=hq0
 obtain⟨v,w,e1,q1⟩:=q1
 subst e1
 obtain⟨u1,u2,rfl,rv,rw'⟩:∃u1 u2,us=[u1,u2]/\RelV v u1/\RelV w u2:=by
  cases r1 with
  |cons p q=>
   cases q with
   |cons p' q'=>
    cases q'
    exact⟨_,_,rfl,p,p'⟩
 refine wpAny_newObj_type ?_ (by show 2<=sizeLine;decide)
 have I2:Inv X pins σ H1 {s1 with heap:=s1.heap.push {cls:=.type "tuple",data:=.seq [u1,u2].toArray}}:=I1.kept (t':=s1.toks) fun b o e=>Heap.get?_push_of_some _ e
 rw[hw]
 refine wpAny_bind (wpAny_pure ?_)
 show wpAny (model X.prog X.w) X.A (do rule "assign.swapped-stores";let items <- unpackItems (.ref s1.heap.objs.size) 2 none;assignInOrder [fun v=>bindName X.env y v,fun v=>bindName X.env x v] items.reverse;pure Flow.next) _ _ _
 refine wpAny_bind (wpAny_rule (wpAny_bind (unpackItems_tuple (items:=#[u1,u2]) (I.ok.hd hc) (IsTup.new s1.heap _) fun h' hx'=>?_)))
 have I3:=I2.kept (h':=h') (t':=s1.toks) fun b o e=>hx' b o (ne_of_lt (Heap.lt_size e)) e
 show wpAny _ _ (assignInOrder [fun v=>bindName X.env y v,fun v=>bindName X.env x v] [u2,u1]>>=fun _=>pure Flow.next) _ _ _
 refine wpAny_bind (assignInOrder_cons (wpAny_bindName (mn I3 hN hj (.inl hy) rw' (fun s2 I4=>?_) (.inr hy))))
 refine assignInOrder_cons (wpAny_bindName (mn I4 hN hi (.inl hx) rv (fun s3 I5=>assignInOrder_nil (wpAny_pure ?_)) (.inr hx)))
 rw[List.set_comm _ _ (Ne.symm hij)] at I5
 exact⟨_,H1,I5,q1⟩
end
section
variable {X:Cx}{pos:Pos}
noncomputable def P6(c:TT)(tb:TS):TS:=fun D σ H=>∃W:Nat->St->Hp->Prop,(∃m,W m σ H)/\∀m σ H,W m σ H ->
 c σ H fun b H1=>if b=true then ∃N:St->Hp->Prop,(∀bn H',N bn H'->∃m',m'<m/\W m' bn H')/\tb {D with nx:=N,ct:=N,bk:=D.nx} σ H1 else D.nx σ H1
theorem Mp{c:Expr}{body:List Stmt}{tc:TT}{tb:TS}(hp:PassesOwn (model X.prog X.w) X.A X.env X.xe)(hc:PT X c tc)(hb:PSs X body tb):PS X (.While c body [] pos) (P6 tc tb):=by
 intro pins s σ H D I h
 obtain⟨W,⟨m0,w0⟩,turn⟩:=h
 refine wpAny_While (codeAny_whileLoop (fun n s'=>∃bn H',Inv X pins bn H' s'/\W n bn H') ?_ m0 ⟨σ,H,I,w0⟩)
 rintro n s1 ⟨tj,H1,I1,w1⟩
 refine wpAny_passesOwn hp (thn (hc pins s1 tj H1 _ I1 (turn n tj H1 w1)) fun b s2 hq0=>?_)
 obtain⟨H2,I2,q2⟩:=hq0
 cases b with
 |true=>
  obtain⟨N,hN,q2⟩:=q2
  rw[if_pos rfl]
  refine wpAny_passesOwn hp (thn (hb pins s2 tj H2 _ I2 q2) fun f s3 q3=>?_)
  cases f with
  |next=>
   obtain⟨lw,H3,I3,n3⟩:=q3
   obtain⟨m',hm,w3⟩:=hN lw H3 n3
   exact⟨m',hm,lw,H3,I3,w3⟩
  |cont=>
   obtain⟨lw,H3,I3,n3⟩:=q3
   obtain⟨m',hm,w3⟩:=hN lw H3 n3
   exact⟨m',hm,lw,H3,I3,w3⟩
  |brk=>exact q3
  |ret v=>exact q3
 |false=>
  rw[if_neg Bool.false_ne_true]
  exact wpAny_execs_nil ⟨tj,H2,I2,q2⟩
end
structure It where
 go:Nat->Hp->Prop
 yld:Nat->Hp->V->Hp->Prop
 stop:Nat->Hp->Prop
noncomputable def qT(X:Cx)(pins:List (Addr×Obj))(H:Hp)(b:Addr):Prop:=
 H b=none/\b≠X.env.locals/\b ∉ X.fs/\(b∈X.ex\/X.gV.heap.objs.size<=b)/\(∀x c,X.env.cells.lookup x=some c->c≠b)/\∀p∈X.pn++pins,p.1≠b
theorem Inv.G3{X:Cx}{pins:List (Addr×Obj)}{σ:St}{H H':Hp}{s:Shared}{b:Addr}(I:Inv X pins σ H s)(hb:s.heap.objs.size<=b)(hn:H' b=none):qT X pins H' b:=by
 refine⟨hn,Nat.ne_of_gt (lt_of_lt_of_le I.lt hb),I.Sj hb,.inr (le_trans I.sz hb),fun x c e z=>?_,fun p hp z=>?_⟩
 ·obtain⟨v,q⟩:=I.cell x c e
  exact absurd (lt_of_lt_of_le q.lt (by rw[z];exact hb)) (lt_irrefl _)
 ·exact absurd (lt_of_lt_of_le (Heap.lt_size (I.pin p hp).1) (by rw[z];exact hb)) (lt_irrefl _)
structure Turn(c:Bool)(P:Program)(w:World)(K:PySem.W.Frag)(tg:Expr)(J:It)(fp:List Addr)(it:Addr)(tn:Nat->Heap->Prop):Prop where
 mem:it∈fp
 obj:∀i h,tn i h->∀b∈fp,∃o,h.get? b=some o/\∀v,o.data≠.cell v
 keep:∀i h h',tn i h->(∀b∈fp,∀o,h.get? b=some o->h'.get? b=some o)->tn i h'
 item:∀(X:Cx),X.prog=P->X.w=w->X.K=K->(c=true->X.calm=true)->∀(i:Nat) (pins:List (Addr×Obj)) (s:Shared) (σ:St) (H:Hp) (E:Value->Shared->Prop),Inv X pins σ H s->(∀b∈fp,qT X pins H b)->tn i s.heap->J.go i H ->
  wpAny (model P w) X.A (pyNext (.ref it)) (fun r s1=>∃u,r=some u /\
   wpAny (model P w) X.A (letOwnedTupleGo tg (.ref it) u) (fun _ s2=>∃x H',Inv X pins σ H' s2/\RelV x u/\J.yld i H x H'/\tn (i+1) s2.heap/\∀b∈fp,H' b=none) E s1) E s
 done:∀(X:Cx),X.prog=P->X.w=w->X.K=K->(c=true->X.calm=true)->∀(i:Nat) (pins:List (Addr×Obj)) (s:Shared) (σ:St) (H:Hp) (E:Value->Shared->Prop),Inv X pins σ H s->(∀b∈fp,qT X pins H b)->tn i s.heap->J.stop i H ->
  wpAny (model P w) X.A (pyNext (.ref it)) (fun r s1=>r=none/\Inv X pins σ H s1) E s
 self:∀(A:Around) (i:Nat) (s:Shared) (Q:Value->Shared->Prop) (E:Value->Shared->Prop),tn i s.heap->Q (.ref it) s->wpAny (model P w) A (pyIter (.ref it)) Q E s
theorem Turn.calm{c:Bool}{P:Program}{w:World}{K:PySem.W.Frag}{tg:Expr}{J:It}{fp:List Addr}{it:Addr}{tn:Nat->Heap->Prop}(T:Turn true P w K tg J fp it tn)(h:c=true):Turn c P w K tg J fp it tn:=by subst h;exact T
noncomputable abbrev TI:=St->Hp->(It->Hp->Prop)->Prop
noncomputable def PIE(X:Cx)(pins:List (Addr×Obj))(σ:St)(tg:Expr)(R:It->Hp->Prop)(itv:Value)(s2:Shared):Prop:=
 ∃(it:Addr) (fp:List Addr) (tn:Nat->Heap->Prop) (J:It) (H':Hp),itv = .ref it/\Inv X pins σ H' s2/\Turn X.calm X.prog X.w X.K tg J fp it tn/\tn 0 s2.heap/\(∀b∈fp,qT X pins H' b)/\R J H'
noncomputable def PI(X:Cx)(tg iter:Expr)(wi:TI):Prop:=
 ∀(pins:List (Addr×Obj)) (s:Shared) (σ:St) (H:Hp) (R:It->Hp->Prop),Inv X pins σ H s->wi σ H R ->
  wpAny (model X.prog X.w) X.A (eval iter X.env) (fun v s1=>wpAny (model X.prog X.w) X.A (pyIter v) (PIE X pins σ tg R) X.xe s1) X.xe s
theorem KO{M:Model}{A:Around}{E:Value->Shared->Prop}{s:Shared}{tg:Expr}{it:Addr}{u:Value}{o:Obj}{n:String}{vs:Array Value}{Q:Unit->Shared->Prop}(ho:s.heap.get? it=some o)(hc:o.cls = .type n)(hd:o.data = .fields vs)
  (hn:["enumerate","zip","dict_itemiterator","dict_reverseitemiterator","odict_iterator","itertools.zip_longest","itertools.pairwise"].contains n=false) (hQ:Q () s):wpAny M A (letOwnedTupleGo tg (.ref it) u) Q E s:=by
 unfold letOwnedTupleGo
 cases tg<;>first
  |exact wpAny_pure hQ
  |(cases u<;>first
    |exact wpAny_pure hQ
    |(refine wpAny_bind (wpAny_load ho ?_)
      rw[hc,hd]
      show wpAny M A (if (["enumerate","zip","dict_itemiterator","dict_reverseitemiterator","odict_iterator","itertools.zip_longest","itertools.pairwise"].contains n&&vs[0]?==some (rawInt _))=true then _ else _) Q E s
      rw[if_neg (by intro h;rw[hn,Bool.false_and] at h;cases h)]
      exact wpAny_pure hQ))
noncomputable def Itl(K:PySem.W.Frag)(a:Addr):It:=
 ⟨fun i H=>∃xs x,SqL K H a xs/\xs[i]? = some x,fun i H x H'=>H'=H/\∀xs,SqL K H a xs->xs[i]? = some x,fun i H=>∃xs,SqL K H a xs/\xs.length<=i⟩
noncomputable def Itt(K:PySem.W.Frag)(a:Addr):It:=
 ⟨fun i H=>∃xs x,SqT K H a xs/\xs[i]? = some x,fun i H x H'=>H'=H/\∀xs,SqT K H a xs->xs[i]? = some x,fun i H=>∃xs,SqT K H a xs/\xs.length<=i⟩
noncomputable def Itr(lo:Int)(n:Nat):It:=⟨fun i _=>i<n,fun i H x H'=>H'=H/\x = .int (lo+i),fun i _=>n<=i⟩
theorem IU{c:Bool}{P:Program}{w:World}{K:PySem.W.Frag}{tg:Expr}(a it:Addr):Turn c P w K tg (Itl K a) [it] it (fun i h=>h.IsListIter it a i) where
 mem:=by simp
 obj:=fun i h st b hb=>by
  have e:b=it:=by simpa using hb
  subst e
  obtain⟨o,e,c,d⟩:=st
  exact⟨o,e,fun v z=>by rw[d] at z;cases z⟩
 keep:=fun i h h' st k=>st.at fun o e=>k it (by simp) o e
 item:=by
  intro X hP hw hK hc i pins s σ H E I hf st hg
  subst hP hw hK
  obtain⟨xs,x,hq,hx⟩:=hg
  obtain⟨its,rv,p,hz⟩:=I.list hq
  obtain⟨u,hu,ru⟩:=rv.get hx
  obtain⟨f0,f1,f2,f3,f4,f5⟩:=hf it (by simp)
  refine wpAny_pyNext_list_item st p.isList (x:=u) (by simpa using hu) fun h' st' sb=>?_
  have I1:Inv X pins σ H {s with heap:=h'}:=I.turned (t':=s.toks) (fun b o hb e=>(sb.2 b hb).trans e) f0 f1 f3 f4 f5
  obtain⟨o,e,c,d⟩:=id st'
  exact⟨u,rfl,KO (s:={s with heap:=h'}) e c d ⋯ ⟨x,H,I1,ru,⟨rfl,fun ys hy=>by rw[I.uf hy hq];exact hx⟩,st',fun b hb=>(hf b hb).1⟩⟩
 done:=by
  intro X hP hw hK hc i pins s σ H E I hf st hg
  subst hP hw hK
  obtain⟨xs,hq,hx⟩:=hg
  obtain⟨its,rv,p,hz⟩:=I.list hq
  obtain⟨f0,f1,f2,f3,f4,f5⟩:=hf it (by simp)
  have hl:=rv.length
  exact Ac I.G9 (I.hne f5) st p.isList (by simp;omega) fun h' eb=>⟨rfl,I.turned (t':=s.toks) (fun b o hb e=>eb b o hb e) f0 f1 f3 f4 f5⟩
 self:=fun _ _ _ _ _ st h=>wpAny_pyIter_listiter st h
theorem FN{c:Bool}{P:Program}{w:World}{K:PySem.W.Frag}{tg:Expr}(a it:Addr):Turn c P w K tg (Itt K a) [it] it (fun i h=>h.IsTupleIter it a i) where
 mem:=by simp
 obj:=fun i h st b hb=>by
  have e:b=it:=by simpa using hb
  subst e
  obtain⟨o,e,c,d⟩:=st
  exact⟨o,e,fun v z=>by rw[d] at z;cases z⟩
 keep:=fun i h h' st k=>st.at fun o e=>k it (by simp) o e
 item:=by
  intro X hP hw hK hc i pins s σ H E I hf st hg
  subst hP hw hK
  obtain⟨xs,x,hq,hx⟩:=hg
  obtain⟨its,rv,p,hz⟩:=I.tuple hq
  obtain⟨u,hu,ru⟩:=rv.get hx
  obtain⟨f0,f1,f2,f3,f4,f5⟩:=hf it (by simp)
  refine wpAny_pyNext_tuple_item st (show s.heap.IsTuple a its.toArray from p) (x:=u) (by simpa using hu) fun h' st' sb=>?_
  have I1:Inv X pins σ H {s with heap:=h'}:=I.turned (t':=s.toks) (fun b o hb e=>(sb.2 b hb).trans e) f0 f1 f3 f4 f5
  obtain⟨o,e,c,d⟩:=id st'
  exact⟨u,rfl,KO (s:={s with heap:=h'}) e c d ⋯ ⟨x,H,I1,ru,⟨rfl,fun ys hy=>by rw[I.Jj hy hq];exact hx⟩,st',fun b hb=>(hf b hb).1⟩⟩
 done:=by
  intro X hP hw hK hc i pins s σ H E I hf st hg
  subst hP hw hK
  obtain⟨xs,hq,hx⟩:=hg
  obtain⟨its,rv,p,hz⟩:=I.tuple hq
  obtain⟨f0,f1,f2,f3,f4,f5⟩:=hf it (by simp)
  have hl:=rv.length
  exact tY I.G9 (I.hne f5) st (show s.heap.IsTuple a its.toArray from p) (by simp;omega) fun h' eb=>⟨rfl,I.turned (t':=s.toks) (fun b o hb e=>eb b o hb e) f0 f1 f3 f4 f5⟩
 self:=fun _ _ _ _ _ st h=>wpAny_pyIter_tupleiter st h
theorem Gp{P:Program}{w:World}{K:PySem.W.Frag}{tg:Expr}(it:Addr)(lo:Int)(n:Nat):Turn true P w K tg (Itr lo n) [it] it (fun i h=>IsRangeIter h it (lo+(i:Nat)*1) ((n:Int)-(i:Nat)) 1) where
 mem:=by simp
 obj:=fun i h st b hb=>by
  have e:b=it:=by simpa using hb
  subst e
  exact⟨_,st,fun v z=>by
   have z':Data.fields _=Data.cell v:=z
   cases z'⟩
 keep:=fun i h h' st k=>k it (by simp) _ st
 item:=by
  intro X hP hw hK hc i pins s σ H E I hf st hg
  subst hP hw hK
  obtain⟨f0,f1,f2,f3,f4,f5⟩:=hf it (by simp)
  have W:=Walks.range (prog:=X.prog) (w:=X.w) (I.ok.hd (hc rfl)) it lo 1 n
  refine W.item i s _ _ hg st fun v h' tk hv st' kk=>?_
  obtain⟨t,rfl⟩:=hv
  have I1:Inv X pins σ H {s with heap:=h',toks:=tk}:=I.turned (fun b o hb e=>kk b o (by simpa using hb) e) f0 f1 f3 f4 f5
  refine⟨_,rfl,KO (s:={s with heap:=h',toks:=tk}) (n:="range_iterator") st' rfl rfl ⋯ ⟨.int (lo+i),H,I1,⟨t,?_⟩,⟨rfl,rfl⟩,st',fun b hb=>(hf b hb).1⟩⟩
  rw[Int.mul_one]
 done:=by
  intro X hP hw hK hc i pins s σ H E I hf st hg
  subst hP hw hK
  obtain⟨f0,f1,f2,f3,f4,f5⟩:=hf it (by simp)
  exact wpAny_pyNext_range_end (I.ok.hd (hc rfl)) st (by have:n<=i:=hg;omega) fun h' eb=>⟨rfl,I.turned (t':=s.toks) (fun b o hb e=>eb b o hb e) f0 f1 f3 f4 f5⟩
 self:=fun _ _ _ _ _ st h=>wpAny_pyIter_rangeiter st h
end L2
namespace L2
open PySem PySem.Spec PyProof.Rows
section
variable {X:Cx}{tg:Expr}
noncomputable def QD(K:PySem.W.Frag)(tl:TE):TI:=fun σ H R=>tl σ H fun x H1=>∃a,x = .ref a/\(∃xs,SqL K H1 a xs)/\R (Itl K a) H1
noncomputable def RR(K:PySem.W.Frag)(tl:TE):TI:=fun σ H R=>tl σ H fun x H1=>∃a,x = .ref a/\(∃xs,SqT K H1 a xs)/\R (Itt K a) H1
theorem IA{l:Expr}{tl:TE}(hl:PE X l tl):PI X tg l (QD X.K tl):=by
 intro pins s σ H R I h
 refine thn (hl pins s σ H _ I h) fun v s1 hq0=>?_
 obtain⟨x,H1,I1,r1,q1⟩:=hq0
 obtain⟨a,e,⟨xs,hq⟩,q⟩:=q1
 subst e
 cases r1
 obtain⟨its,rv,p,hz⟩:=I1.list hq
 refine wpAny_pyIter_list p.isList ?_
 refine⟨s1.heap.objs.size,[s1.heap.objs.size],_,_,H1,rfl,I1.kept (t':=s1.toks) fun b o e=>Heap.get?_push_of_some _ e,IU a _,⟨_,Heap.get?_push_size _ rfl,rfl,rfl⟩,fun b hb=>?_,q⟩
 have e:b=s1.heap.objs.size:=by simpa using hb
 subst e
 exact I1.G3 (le_refl _) (I1.hok.fresh (le_refl _))
theorem Qf{l:Expr}{tl:TE}(hl:PE X l tl):PI X tg l (RR X.K tl):=by
 intro pins s σ H R I h
 refine thn (hl pins s σ H _ I h) fun v s1 hq0=>?_
 obtain⟨x,H1,I1,r1,q1⟩:=hq0
 obtain⟨a,e,⟨xs,hq⟩,q⟩:=q1
 subst e
 cases r1
 obtain⟨its,rv,p,hz⟩:=I1.tuple hq
 refine wpAny_pyIter_tuple (show s1.heap.IsTuple a its.toArray from p) ?_
 refine⟨s1.heap.objs.size,[s1.heap.objs.size],_,_,H1,rfl,I1.kept (t':=s1.toks) fun b o e=>Heap.get?_push_of_some _ e,FN a _,⟨_,Heap.get?_push_size _ rfl,rfl,rfl⟩,fun b hb=>?_,q⟩
 have e:b=s1.heap.objs.size:=by simpa using hb
 subst e
 exact I1.G3 (le_refl _) (I1.hok.fresh (le_refl _))
theorem EW(hc:X.calm=true){pins:List (Addr×Obj)}{σ:St}{H:Hp}{s:Shared}{R:It->Hp->Prop}{E:Value->Shared->Prop}{lo hi:Int}{t u v:Tok}{tk:Nat}(I:Inv X pins σ H s)(h1:-(2 ^ 62)<=lo)(h2:lo<2 ^ 62)(h3:-(2 ^ 62)<=hi)(h4:hi<2 ^ 62)
  (q:R (Itr lo (hi-lo).toNat) H):wpAny (model X.prog X.w) X.A (pyIter (.ref s.heap.objs.size)) (PIE X pins σ tg R) E {s with heap:=s.heap.push {cls:=.type "range",data:=.fields #[.int lo t,.int hi u,.int 1 v]},toks:=tk}:=by
 refine wpAny_pyIter_range (IsRange.new ..) (small_one h1 h2 h3 h4) ?_
 have I1:Inv X pins σ H {s with heap:=s.heap.push {cls:=.type "range",data:=.fields #[.int lo t,.int hi u,.int 1 v]},toks:=tk}:=I.kept fun b o e=>Heap.get?_push_of_some _ e
 refine⟨(s.heap.push {cls:=.type "range",data:=.fields #[.int lo t,.int hi u,.int 1 v]}).objs.size,[(s.heap.push {cls:=.type "range",data:=.fields #[.int lo t,.int hi u,.int 1 v]}).objs.size],_,_,H,rfl,
  I1.kept (t':=tk) fun b o e=>Heap.get?_push_of_some _ e,(Gp _ lo (hi-lo).toNat).calm hc,?_,fun b hb=>?_,q⟩
 ·have e1:lo+((0:Nat):Int)*1=lo:=by simp
  have e2:(((hi-lo).toNat:Nat):Int)-((0:Nat):Int)=Builtin.Range.rangeSize lo hi 1:=by rw[rangeSize_one];split<;>omega
  show IsRangeIter _ _ (lo+((0:Nat):Int)*1) ((((hi-lo).toNat:Nat):Int)-((0:Nat):Int)) 1
  rw[e1,e2]
  exact Heap.get?_push_size _ rfl
 ·have e:b=(s.heap.push {cls:=.type "range",data:=.fields #[.int lo t,.int hi u,.int 1 v]}).objs.size:=by simpa using hb
  subst e
  exact I1.G3 (le_refl _) (I1.hok.fresh (le_refl _))
noncomputable def QK(ta:TA):TI:=fun σ H R=>ta σ H fun vs H1=>∃j:Int,vs=[.int j]/\-(2 ^ 62)<=j/\j<2 ^ 62/\R (Itr 0 j.toNat) H1
noncomputable def RG(ta:TA):TI:=fun σ H R=>ta σ H fun vs H1=>∃i j:Int,vs=[.int i,.int j]/\(-(2 ^ 62)<=i/\i<2 ^ 62/\-(2 ^ 62)<=j/\j<2 ^ 62)/\R (Itr i (j-i).toNat) H1
theorem Jx{a:Expr}{ta:TA}{p pos:Pos}(hc:X.calm=true)(hg:Gl X "range")(hm:X.mg "range"=none)(ha:PA X [a] ta)(hs:starEach [a] X.env=[(false,eval a X.env)]:=by rfl):PI X tg (.Call (.Name "range" p) [a] [] pos) (QK ta):=by
 intro pins s σ H R I h
 refine Call_ (pA I hg hm boot_range (PyProof.Rows.callWith_type1 (thn (ha pos pins s σ H _ I h) fun us s1 hq0=>?_) hs rfl))
 obtain⟨vs,H1,I1,r1,q1⟩:=hq0
 obtain⟨j,e,q1,q2,q⟩:=q1
 subst e
 cases r1 with
 |cons r rr=>
  cases rr
  obtain⟨t,rfl⟩:=r
  exact call_range_1 (EW hc I1 ∅ ∅ q1 q2 (by simpa using q))
theorem JV{a b:Expr}{ta:TA}{p pos:Pos}(hc:X.calm=true)(hg:Gl X "range")(hm:X.mg "range"=none)(ha:PA X [a,b] ta)(hs:starEach [a,b] X.env=[(false,eval a X.env),(false,eval b X.env)]:=by rfl)(hs2:starEach [b] X.env=[(false,eval b X.env)]:=by rfl) :
  PI X tg (.Call (.Name "range" p) [a,b] [] pos) (RG ta):=by
 intro pins s σ H R I h
 refine Call_ (pA I hg hm boot_range (PyProof.Rows.callWith_type1 (thn (ha pos pins s σ H _ I h) fun us s1 hq0=>?_) (by rw[hs,hs2]) (by rw[hs2];rfl)))
 obtain⟨vs,H1,I1,r1,q1⟩:=hq0
 obtain⟨i,j,e,⟨q1,q2,q3,q4⟩,q⟩:=q1
 subst e
 cases r1 with
 |cons r rr=>
  cases rr with
  |cons r' rr=>
   cases rr
   obtain⟨t,rfl⟩:=r
   obtain⟨t',rfl⟩:=r'
   exact call_range_2 (EW hc I1 q1 q2 q3 q4 q)
noncomputable def RT(wi:TI)(g:TG)(tb:TS):TS:=fun D σ H=>wi σ H fun J H1=>∃W:Nat->Nat->St->Hp->Prop,(∃m,W 0 m σ H1)/\∀i m σ H,W i m σ H ->
 (J.stop i H/\D.nx σ H)\/(J.go i H/\∃N:St->Hp->Prop,(∀bn H',N bn H'->∃m',m'<m/\W (i+1) m' bn H')/\∀x H',J.yld i H x H'->g x σ H' fun u8 H2=>tb {D with nx:=N,ct:=N,bk:=D.nx} u8 H2)
noncomputable def qB(fp:List Addr)(h:Heap):List (Addr×Obj):=fp.filterMap fun b=>(h.get? b).map fun o=>(b,o)
theorem bK{fp:List Addr}{h:Heap}{b:Addr}{o:Obj}(hb:b∈fp)(e:h.get? b=some o):(b,o)∈qB fp h:=List.mem_filterMap.mpr ⟨b,hb,by rw[e];rfl⟩
theorem JO{fp:List Addr}{h:Heap}{p:Addr×Obj}(hp:p∈qB fp h):p.1∈fp/\h.get? p.1=some p.2:=by
 obtain⟨b,hb,e⟩:=List.mem_filterMap.mp hp
 cases q:h.get? b with
 |none=>rw[q] at e;cases e
 |some o=>
  rw[q] at e
  have e':(b,o)=p:=Option.some.inj e
  subst e'
  exact⟨hb,q⟩
theorem Inv.pinned{pins:List (Addr×Obj)}{σ:St}{H:Hp}{s:Shared}{fp:List Addr}(I:Inv X pins σ H s)(hf:∀b∈fp,qT X pins H b)(ho:∀b∈fp,∃o,s.heap.get? b=some o/\∀v,o.data≠.cell v):Inv X (pins++qB fp s.heap) σ H s:=
 I.Ir fun p hp=>(List.mem_append.mp hp).elim (fun z=>I.pin p (mem_append_right _ z)) fun z=>by
  obtain⟨hb,e⟩:=JO z
  obtain⟨f0,f1,f2,_⟩:=hf p.1 hb
  obtain⟨o,e',d⟩:=ho p.1 hb
  rw[e] at e';cases e'
  exact⟨e,f0,f1,f2,d⟩
theorem Inv.eV{pins pl:List (Addr×Obj)}{σ:St}{H:Hp}{s:Shared}(I:Inv X (pins++pl) σ H s):Inv X pins σ H s:=I.Ir fun p hp=>I.pin p (mem_append_right _ (mem_append_left _ hp))
theorem Kd{iter:Expr}{body:List Stmt}{wi:TI}{g:TG}{tb:TS}{pos:Pos}(hp:PassesOwn (model X.prog X.w) X.A X.env X.xe)(hc:X.calm=true)(hi:PI X tg iter wi)(hg:PG X tg g)(hb:PSs X body tb)
  (hs:∀x,foldedSetIterable iter X.env x=pure x:=by intro _;rfl):PS X (.For tg iter body [] pos) (RT wi g tb):=by
 intro pins s σ H D I h
 refine wpAny_For (thn (hi pins s σ H _ I h) fun v s1 h1=>thn h1 fun itv s2 h2=>?_) hs
 obtain⟨it,fp,tn,J,H2,e,I2,T,st2,f2,W,⟨m0,w0⟩,turn⟩:=h2
 subst e
 have stat:∀{H':Hp},(∀b∈fp,H' b=none)->∀b∈fp,qT X pins H' b:=fun hn b hb=>⟨hn b hb,(f2 b hb).2⟩
 refine codeAny_forLoop_any (fun n s'=>∃i bn H',Inv X pins bn H' s'/\tn i s'.heap/\(∀b∈fp,H' b=none)/\W i n bn H') ?_ m0 ⟨0,σ,H2,I2,st2,fun b hb=>(f2 b hb).1,w0⟩
 rintro n s3 ⟨i,lw,H3,I3,st3,fr3,w3⟩
 rcases turn i n lw H3 w3 with ⟨stop,qn⟩|⟨go,N,hN,step⟩
 ·refine wpAny_passesOwn hp (thn (T.done X rfl rfl rfl (fun z=>z) i pins s3 lw H3 X.xe I3 (stat fr3) st3 stop) fun r s4 hq0=>?_)
  obtain⟨hr,I4⟩:=hq0
  subst hr
  exact wpAny_execs_nil ⟨lw,H3,I4,qn⟩
 ·refine wpAny_passesOwn hp (thn (T.item X rfl rfl rfl (fun z=>z) i pins s3 lw H3 X.xe I3 (stat fr3) st3 go) fun r s4 hq0=>?_)
  obtain⟨u,hr,h4⟩:=hq0
  subst hr
  refine wpAny_passesOwn hp (thn h4 fun _ s5 hq0=>?_)
  obtain⟨x,H5,I5,r5,y5,st5,fr5⟩:=hq0
  have I5':=I5.pinned (stat fr5) (T.obj _ _ st5)
  refine wpAny_passesOwn hp (thn (hg _ s5 lw H5 x u _ I5' r5 (step x H5 y5)) fun _ s6 hq0=>?_)
  obtain⟨im,H6,I6,q6⟩:=hq0
  refine wpAny_passesOwn hp (thn (hb _ s6 im H6 _ I6 q6) fun f s7 q7=>?_)
  have again:∀{sB:St} {H7:Hp},Inv X (pins++qB fp s5.heap) sB H7 s7->N sB H7->∃m,m<n/\∃i bn H',Inv X pins bn H' s7/\tn i s7.heap/\(∀b∈fp,H' b=none)/\W i m bn H':=fun {sB H7} I7 n7=>by
   obtain⟨m',hm,w7⟩:=hN sB H7 n7
   refine⟨m',hm,i+1,sB,H7,I7.eV,T.keep _ _ _ st5 fun b hb o e=>(I7.pin (b,o) (mem_append_right _ (mem_append_right _ (bK hb e)))).1,fun b hb=>?_,w7⟩
   obtain⟨o,e,d⟩:=T.obj _ _ st5 b hb
   exact (I7.pin (b,o) (mem_append_right _ (mem_append_right _ (bK hb e)))).2.1
  cases f with
  |next=>obtain⟨sB,H7,I7,n7⟩:=q7;exact again I7 n7
  |cont=>obtain⟨sB,H7,I7,n7⟩:=q7;exact again I7 n7
  |brk=>obtain⟨sB,H7,I7,q7⟩:=q7;exact⟨sB,H7,I7.eV,q7⟩
  |ret v=>obtain⟨x7,sB,H7,I7,r7,q7⟩:=q7;exact⟨x7,sB,H7,I7.eV,r7,q7⟩
end
end L2
namespace L2
open PySem PySem.Spec PyProof.Rows
noncomputable abbrev R2:=V->V->Hp->VK->Prop
noncomputable def OpR(X:Cx)(f:Value->Value->Sem Value)(r:R2):Prop:=
 ∀(pins:List (Addr×Obj)) (s:Shared) (σ:St) (H:Hp) (x y:V) (v u:Value) (Q:VK),Inv X pins σ H s->RelV x v->RelV y u->r x y H Q ->
  wpAny (model X.prog X.w) X.A (f v u) (EP X pins σ Q) X.xe s
noncomputable def UnR(X:Cx)(f:Value->Sem Value)(r:V->Hp->VK->Prop):Prop:=
 ∀(pins:List (Addr×Obj)) (s:Shared) (σ:St) (H:Hp) (x:V) (v:Value) (Q:VK),Inv X pins σ H s->RelV x v->r x H Q ->
  wpAny (model X.prog X.w) X.A (f v) (EP X pins σ Q) X.xe s
noncomputable def kE(X:Cx)(f:Value)(r:List V->Hp->VK->Prop):Prop:=
 ∀(pins:List (Addr×Obj)) (s:Shared) (σ:St) (H:Hp) (xs:List V) (us:List Value) (Q:VK),Inv X pins σ H s->Vals xs us->r xs H Q ->
  wpAny (model X.prog X.w) X.A (call f us) (EP X pins σ Q) X.xe s
noncomputable def tOp(r:R2)(ta tb:TE):TE:=fun σ H Q=>ta σ H fun x H1=>tb σ H1 fun y H2=>r x y H2 Q
noncomputable def tUn(r:V->Hp->VK->Prop)(ta:TE):TE:=fun σ H Q=>ta σ H fun x H1=>r x H1 Q
noncomputable def rI(C:Int->Int->Prop)(g:Int->Int->V):R2:=fun x y H Q=>∃i j,x = .int i/\y = .int j/\C i j/\Q (g i j) H
noncomputable def rI0(g:Int->Int->V):R2:=fun x y H Q=>∃i j,x = .int i/\y = .int j/\Q (g i j) H
noncomputable def rU(g:Int->V):V->Hp->VK->Prop:=fun x H Q=>∃i,x = .int i/\Q (g i) H
section
variable {X:Cx}{a b c:Expr}{ta tb tc:TE}{pos:Pos}
theorem OQ(ha:PE X a ta)(hb:PE X b tb){pins:List (Addr×Obj)}{s:Shared}{σ:St}{H:Hp}{R:V->V->Hp->Prop}(I:Inv X pins σ H s)
  (h:ta σ H fun x H1=>tb σ H1 fun y H2=>R x y H2) {Q:Value->Shared->Prop} {f:Value->Value->Sem Value}
  (hf:∀v u s2 x y H2,Inv X pins σ H2 s2->RelV x v->RelV y u->R x y H2->wpAny (model X.prog X.w) X.A (f v u) Q X.xe s2) :
  wpAny (model X.prog X.w) X.A (eval a X.env) (fun v ca=>wpAny (model X.prog X.w) X.A (eval b X.env) (fun u gl=>wpAny (model X.prog X.w) X.A (f v u) Q X.xe gl) X.xe ca) X.xe s:=by
 refine thn (ha pins s σ H _ I h) fun v s1 hq0=>?_
 obtain⟨x,H1,I1,r1,q1⟩:=hq0
 refine thn (hb pins s1 σ H1 _ I1 q1) fun u s2 hq0=>?_
 obtain⟨y,H2,I2,r2,q2⟩:=hq0
 exact hf v u s2 x y H2 I2 r1 r2 q2
theorem Rv{op:Operator}{r:R2}(ho:OpR X (binaryOp op) r)(ha:PE X a ta)(hb:PE X b tb):PE X (.BinOp a op b pos) (tOp r ta tb):=by
 intro pins s σ H Q I h
 exact wpAny_BinOp (OQ ha hb I h fun v u s2 x y H2 I2 rx ry q=>ho pins s2 σ H2 x y v u Q I2 rx ry q)
theorem Rj{op:UnaryOp}{r:V->Hp->VK->Prop}(ho:UnR X (unaryOp op) r)(ha:PE X a ta):PE X (.UnaryOp op a pos) (tUn r ta):=by
 intro pins s σ H Q I h
 exact UnaryOp_ (thn (ha pins s σ H _ I h) fun v s1 ⟨x,H1,I1,r1,q1⟩=>ho pins s1 σ H1 x v Q I1 r1 q1)
theorem opI{f:Value->Value->Sem Value}{C:Int->Int->Prop}{g:Int->Int->Int}
  (rule:∀(i j:Int) (t u:Tok) (s:Shared) (Q:Value->Shared->Prop) (E:Value->Shared->Prop),C i j->Q (.int (g i j) s.toks) {s with toks:=s.toks+1}->wpAny (model X.prog X.w) X.A (f (.int i t) (.int j u)) Q E s) :
  OpR X f (rI C fun i j=>.int (g i j)):=by
 intro pins s σ H x y v u Q I rx ry h
 obtain⟨i,j,rfl,rfl,hc,q⟩:=h
 obtain⟨t,rfl⟩:=rx
 obtain⟨t',rfl⟩:=ry
 exact rule i j t t' s _ _ hc ⟨.int (g i j),H,I.tok _,⟨_,rfl⟩,q⟩
theorem RC{f:Value->Value->Sem Value}{g:Int->Int->Int}
  (rule:∀(i j:Int) (t u:Tok) (s:Shared) (Q:Value->Shared->Prop) (E:Value->Shared->Prop),Q (.int (g i j) s.toks) {s with toks:=s.toks+1}->wpAny (model X.prog X.w) X.A (f (.int i t) (.int j u)) Q E s) :
  OpR X f (rI0 fun i j=>.int (g i j)):=by
 intro pins s σ H x y v u Q I rx ry h
 obtain⟨i,j,rfl,rfl,q⟩:=h
 obtain⟨t,rfl⟩:=rx
 obtain⟨t',rfl⟩:=ry
 exact rule i j t t' s _ _ ⟨.int (g i j),H,I.tok _,⟨_,rfl⟩,q⟩
theorem NG{f:Value->Value->Sem Value}{g:Int->Int->Bool}
  (rule:∀(i j:Int) (t u:Tok) (s:Shared) (Q:Value->Shared->Prop) (E:Value->Shared->Prop),Q (.bool (g i j)) s->wpAny (model X.prog X.w) X.A (f (.int i t) (.int j u)) Q E s) :
  OpR X f (rI0 fun i j=>.bl (g i j)):=by
 intro pins s σ H x y v u Q I rx ry h
 obtain⟨i,j,rfl,rfl,q⟩:=h
 obtain⟨t,rfl⟩:=rx
 obtain⟨t',rfl⟩:=ry
 exact rule i j t t' s _ _ ⟨.bl (g i j),H,I,rfl,q⟩
noncomputable def Qp(i j:Int):Prop:=0<=j/\j<=1000000/\i.natAbs<2 ^ 64
noncomputable def ME(i j:Int):Prop:=(-(2 ^ 64)<i/\i<2 ^ 64)\/(-(2 ^ 64)<j/\j<2 ^ 64)
theorem ME.ok{i j:Int}(h:ME i j):IntMulOk i j:=by
 rcases h with ⟨h1,h2⟩|⟨h1,h2⟩
 ·exact .of_left (intBits_le_64 h1 h2)
 ·exact .of_right (intBits_le_64 h1 h2)
theorem PM:OpR X (binaryOp .Add) (rI0 fun i j=>.int (i+j)):=RC fun _ _ _ _ _ _ _ q=>add_int q
theorem OT:OpR X (binaryOp .Sub) (rI0 fun i j=>.int (i-j)):=RC fun _ _ _ _ _ _ _ q=>sub_int q
theorem ML:OpR X (binaryOp .Mod) (rI (fun _ j=>j≠0) fun i j=>.int (i.fmod j)):=opI fun _ _ _ _ _ _ _ hc q=>mod_int' hc q
theorem O5:OpR X (binaryOp .Pow) (rI Qp fun i j=>.int (i ^ j.toNat)):=opI fun _ _ _ _ _ _ _ hc q=>pow_int_small hc.1 hc.2.1 hc.2.2 q
theorem unI{f:Value->Sem Value}{g:Int->Int}
  (rule:∀(i:Int) (t:Tok) (s:Shared) (Q:Value->Shared->Prop) (E:Value->Shared->Prop),Q (.int (g i) s.toks) {s with toks:=s.toks+1}->wpAny (model X.prog X.w) X.A (f (.int i t)) Q E s) :
  UnR X f (rU fun i=>.int (g i)):=by
 intro pins s σ H x v Q I rx h
 obtain⟨i,rfl,q⟩:=h
 obtain⟨t,rfl⟩:=rx
 exact rule i t s _ _ ⟨.int (g i),H,I.tok _,⟨_,rfl⟩,q⟩
theorem Pn:UnR X (unaryOp .USub) (rU fun i=>.int (-i)):=unI fun _ _ _ _ _ q=>neg_int q
end
section
variable {X:Cx}{a b c:Expr}{ta tb tc:TE}{pos:Pos}
theorem ku:OpR X (compareOp .Lt) (rI0 fun i j=>.bl (decide (i<j))):=NG fun _ _ _ _ _ _ _ q=>lt_int q
theorem ID:OpR X (compareOp .LtE) (rI0 fun i j=>.bl (decide (i<=j))):=NG fun _ _ _ _ _ _ _ q=>le_int q
theorem nK:OpR X (compareOp .Gt) (rI0 fun i j=>.bl (decide (j<i))):=NG fun _ _ _ _ _ _ _ q=>gt_int q
theorem D8:OpR X (compareOp .GtE) (rI0 fun i j=>.bl (decide (j<=i))):=NG fun _ _ _ _ _ _ _ q=>ge_int q
theorem aI(b:Expr){op:CmpOp}(h:op≠.In:=by decide)(h2:op≠.NotIn:=by decide):behindInMarks op b=false:=by
 have e1:(op==CmpOp.In)=false:=by cases op<;>first|rfl|exact absurd rfl h
 have e2:(op==CmpOp.NotIn)=false:=by cases op<;>first|rfl|exact absurd rfl h2
 cases b<;>simp[behindInMarks,e1,e2]
theorem MO{op:CmpOp}{r:R2}(ho:OpR X (compareOp op) r)(ha:PE X a ta)(hb:PE X b tb)(hm:behindInMarks op b=false):PE X (.Compare a [op] [b] pos) (tOp r ta tb):=by
 intro pins s σ H Q I h
 exact wpAny_Compare1 (OQ ha hb I h fun v u s2 x y H2 I2 rx ry q=>ho pins s2 σ H2 x y v u Q I2 rx ry q) hm
noncomputable def Mo(t:TE):TT:=fun σ H Q=>t σ H fun x H'=>∃k,x = .bl k/\Q k H'
theorem M8{op:CmpOp}{r:R2}(ho:OpR X (compareOp op) r)(ha:PE X a ta)(hb:PE X b tb)(hm:behindInMarks op b=false):PT X (.Compare a [op] [b] pos) (Mo (tOp r ta tb)):=by
 intro pins s σ H Q I h
 refine wpAny_isTrue_Compare1 (thn (ha pins s σ H _ I h) fun v s1 ⟨x,H1,I1,r1,q1⟩=>thn (hb pins s1 σ H1 _ I1 q1) fun u s2 ⟨y,H2,I2,r2,q2⟩=>
  thn (ho pins s2 σ H2 x y v u _ I2 r1 r2 q2) fun c s3 ⟨z,H3,I3,r3,k,e,q3⟩=>?_) hm
 subst e
 cases r3
 exact wpAny_truthy_bool ⟨H3,I3,q3⟩
noncomputable def OB(r r':R2)(ta tb tc:TE):TE:=fun σ H Q=>ta σ H fun x H1=>tb σ H1 fun y H2=>r x y H2 fun z H3=>∃k,z = .bl k /\
 (if k=true then tc σ H3 fun w' H4=>r' y w' H4 Q else Q (.bl false) H3)
theorem LV{op op':CmpOp}{r r':R2}(ho:OpR X (compareOp op) r)(ho':OpR X (compareOp op') r')(ha:PE X a ta)(hb:PE X b tb)(hc:PE X c tc)
  (hm:lastMarks [op,op'] [b,c]=false:=by with_unfolding_all rfl):PT X (.Compare a [op,op'] [b,c] pos) (Mo (OB r r' ta tb tc)):=by
 intro pins s σ H Q I h
 refine isTrue_chain (thn (ha pins s σ H _ I h) fun v s1 ⟨x,H1,I1,r1,q1⟩=>test_link (thn (hb pins s1 σ H1 _ I1 q1) fun u s2 ⟨y,H2,I2,r2,q2⟩=>
  thn (ho pins s2 σ H2 x y v u _ I2 r1 r2 q2) fun d s3 ⟨z,H3,I3,r3,k,e,q3⟩=>?_)) hm
 subst e
 cases r3
 refine wpAny_truthy_bool ?_
 cases k with
 |false=>
  obtain⟨k',e',q'⟩:=q3
  cases e'
  exact ite_ff ⟨H3,I3,q'⟩
 |true=>
  refine ite_tt (test_last (thn (hc pins s3 σ H3 _ I3 q3) fun w' s4 ⟨z',H4,I4,r4,q4⟩=>thn (ho' pins s4 σ H4 y z' u w' _ I4 r2 r4 q4) fun d' s5 hq0=>?_))
  obtain⟨z2,H5,I5,r5,k2,e2,q5⟩:=hq0
  subst e2
  cases r5
  exact wpAny_truthy_bool ⟨H5,I5,q5⟩
theorem yF:(sizeLine:Nat)<2 ^ 63:=by rw[sizeLine_eq];decide
theorem vals1{x:V}{us:List Value}(r:Vals [x] us):∃u,us=[u]/\RelV x u:=by
 cases r with
 |cons r1 r2=>cases r2;exact⟨_,rfl,r1⟩
theorem vals2{x y:V}{us:List Value}(r:Vals [x,y] us):∃u w',us=[u,w']/\RelV x u/\RelV y w':=by
 cases r with
 |cons r1 r2=>
  cases r2 with
  |cons r3 r4=>cases r4;exact⟨_,_,rfl,r1,r3⟩
theorem K9:kE X (.builtin "abs") (fun xs H Q=>∃i,xs=[.int i]/\Q (.int (if i<0 then -i else i)) H):=by
 intro pins s σ H xs us Q I r h
 obtain⟨i,rfl,q⟩:=h
 obtain⟨u,rfl,t,rfl⟩:=vals1 r
 exact call_abs_int fun u tk=>⟨.int (if i<0 then -i else i),H,I.tok _,⟨_,rfl⟩,q⟩
theorem IQ(hc:X.calm=true):kE X (.builtin "max") (fun xs H Q=>∃i j,xs=[.int i,.int j]/\Q (.int (if j>i then j else i)) H):=by
 intro pins s σ H xs us Q I r h
 obtain⟨i,j,rfl,q⟩:=h
 obtain⟨u,w',rfl,⟨t,rfl⟩,⟨t',rfl⟩⟩:=vals2 r
 refine max_two_ints (I.ok.hd hc) fun h' tk k=>⟨_,H,I.kept k,?_,q⟩
 by_cases hj:j>i
 ·rw[if_pos hj,if_pos hj];exact⟨_,rfl⟩
 ·rw[if_neg hj,if_neg hj];exact⟨_,rfl⟩
theorem JC(hc:X.calm=true):kE X (.builtin "min") (fun xs H Q=>∃i j,xs=[.int i,.int j]/\Q (.int (if j<i then j else i)) H):=by
 intro pins s σ H xs us Q I r h
 obtain⟨i,j,rfl,q⟩:=h
 obtain⟨u,w',rfl,⟨t,rfl⟩,⟨t',rfl⟩⟩:=vals2 r
 refine min_two_ints (I.ok.hd hc) fun h' tk k=>⟨_,H,I.kept k,?_,q⟩
 by_cases hj:j<i
 ·rw[if_pos hj,if_pos hj];exact⟨_,rfl⟩
 ·rw[if_neg hj,if_neg hj];exact⟨_,rfl⟩
theorem JQ:kE X (.type "int") (fun xs H Q=>(∃i,xs=[.int i]/\Q (.int i) H)\/∃k,xs=[.bl k]/\Q (.int (if k then 1 else 0)) H):=by
 intro pins s σ H xs us Q I r h
 rcases h with ⟨i,rfl,q⟩|⟨k,rfl,q⟩
 ·obtain⟨u,rfl,t,rfl⟩:=vals1 r
  exact call_int_int ⟨.int i,H,I,⟨_,rfl⟩,q⟩
 ·obtain⟨u,rfl,r1⟩:=vals1 r
  cases r1
  exact call_int_bool ⟨.int (if k then 1 else 0),H,I.tok _,⟨_,rfl⟩,q⟩
end
end L2
namespace L2
open PySem PySem.Spec PyProof.Rows
end L2
namespace L2
open PySem PySem.Spec PyProof.Rows
structure nt(k:Nat)(A:Around):Prop where
 hd:A.handled=none
 dp:A.depth+3*k+5<recursionLimit
 un:A.units+16*k+200<cLine
theorem nt.mono{j k:Nat}{A:Around}(r:nt k A)(h:j<=k):nt j A:=⟨r.hd,by have:=r.dp;omega,by have:=r.un;omega⟩
theorem nt.deeper{k:Nat}{A:Around}(r:nt (k+1) A)(env:Env):nt k (A.deeper env):=
 ⟨r.hd,by have:=r.dp;show A.depth+1+3*k+5<_;omega,by have:=r.un;show A.units+3+16*k+200<_;omega⟩
theorem nt.depth{k:Nat}{A:Around}(r:nt k A):A.depth<recursionLimit:=by have:=r.dp;omega
theorem nt.units{k:Nat}{A:Around}(r:nt k A):A.units+64<cLine:=by have:=r.un;omega
noncomputable def R0:TA:=fun _ H Q=>Q [] H
noncomputable def QW(ta:TE)(tr:TA):TA:=fun σ H Q=>ta σ H fun x H1=>tr σ H1 fun xs H2=>Q (x::xs) H2
section
variable {X:Cx}{e:Expr}{es:List Expr}{te:TE}{t:TA}{pos:Pos}
theorem vB:PA X [] R0:=fun _ _ _ _ H Q I h=>Calls.spliced_nil ⟨[],H,I,.nil,h⟩
theorem ko(ha:PE X e te)(hr:PA X es t)(hs:starEach (e::es) X.env=(false,eval e X.env)::starEach es X.env:=by rfl):PA X (e::es) (QW te t):=by
 intro pos pins s σ H Q I h
 rw[hs]
 show wpAny _ _ (spliced ((false,eval e X.env)::backTo pos (starEach es X.env))) _ _ s
 refine Calls.spliced_cons (thn (ha pins s σ H _ I h) fun u s1 hq0=>?_)
 obtain⟨x,H1,I1,r1,q1⟩:=hq0
 exact thn (hr pos pins s1 σ H1 _ I1 q1) fun us s2 ⟨xs,H2,I2,r2,q2⟩=>⟨x::xs,H2,I2,.cons r1 r2,q2⟩
noncomputable def RX(t:TA):TE:=fun σ H Q=>t σ H fun xs H1=>xs.length<=sizeLine/\∀p,H1 p=none->Q (.ref p) (upd H1 p (.tup xs))
noncomputable def R5(t:TA):TE:=fun σ H Q=>t σ H fun xs H1=>xs.length<=sizeLine/\∀p,H1 p=none->Q (.ref p) (upd H1 p (.lst xs))
theorem PO{x1}(h:PA X es t):PE X (.Tuple es x1 pos) (RX t):=by
 intro pins s σ H Q I hq
 refine wpAny_Tuple_spliced (thn (h pos pins s σ H _ I hq) fun us s1 ⟨xs,H1,I1,r,z,q⟩=>⟨by rw[<- r.length];exact z,?_⟩)
 have hf:H1 s1.heap.objs.size=none:=I1.hok.fresh (le_refl _)
 refine⟨.ref s1.heap.objs.size,upd H1 s1.heap.objs.size (.tup xs),I1.laid (t':=s1.toks) (fun b u e=>Heap.get?_push_of_some _ e) (le_refl _) ?_,rfl,q _ hf⟩
 exact⟨z,us,r,⟨_,Heap.get?_push_size _ rfl,rfl,_,rfl⟩⟩
theorem O8(h:PA X es t):PE X (.List es pos) (R5 t):=by
 intro pins s σ H Q I hq
 refine wpAny_List_spliced (thn (h pos pins s σ H _ I hq) fun us s1 ⟨xs,H1,I1,r,z,q⟩=>⟨by rw[<- r.length];exact z,?_⟩)
 have hf:H1 s1.heap.objs.size=none:=I1.hok.fresh (le_refl _)
 refine⟨.ref s1.heap.objs.size,upd H1 s1.heap.objs.size (.lst xs),I1.laid (t':=s1.toks) (fun b u e=>Heap.get?_push_of_some _ e) (le_refl _) ?_,rfl,q _ hf⟩
 exact⟨z,us,0,r,Heap.get?_push_size _ rfl⟩
end
noncomputable abbrev Sp:=List V->Hp->VK->XK->Prop
noncomputable abbrev CXT:=List Env->Hp->Shared->XK->Value->Shared->Prop
structure NF(P:Program)(w:World)(K:PySem.W.Frag)(mg:Str->Option Value)(base:Heap)(A:Around)(outer:List Env)(s:Shared)(H:Hp):Prop where
 frames:A.frames=some outer
 mod:Mod K mg base
 bs:∀b o,base.get? b=some o->s.heap.get? b=some o/\H b=none
 bsz:base.objs.size<=s.heap.objs.size
 xR:s.heap.FunFrames base outer
 frf:∀b∈frs outer,H b=none
 hok:HOk P w H s.heap
 bare:AllBare s.gens
noncomputable def CE(outer:List Env)(P:Program)(w:World)(H:Hp)(s:Shared)(Q:VK)(u:Value)(s':Shared):Prop:=
 ∃v H',s'.os=s.os/\AllBare s'.gens/\Un (frs outer) [] H H' s.heap s'.heap/\HOk P w H' s'.heap/\RelV v u/\Q v H'
noncomputable def CR(CX:CXT)(outer:List Env)(P:Program)(w:World)(H:Hp)(s:Shared)(Q:VK)(E:XK)(r:Result)(s':Shared):Prop:=
 match r with
 |.ok (.ret u)=>CE outer P w H s Q u s'
 |.ok _=>False
 |.error e=>CX outer H s E e s'
structure br(P:Program)(w:World)(K:PySem.W.Frag)(mg:Str->Option Value)(base:Heap)(CX:CXT)(k:Nat)(f:Addr)(fd:FuncData)(ps:List Str)(sp:Sp):Prop where
 len:∀vs H Q E,sp vs H Q E->vs.length=ps.length
 run:∀(A:Around) (outer:List Env) (s:Shared) (H:Hp) (args:Args) (us:List Value) (vs:List V) (Q:VK) (E:XK),nt k A->NF P w K mg base A outer s H->BindsTo s fd args (ps.zip us)->Vals vs us->sp vs H Q E ->
  codeAny (model P w) A (.call (.ref f) args) (CR CX outer P w H s Q E) s
theorem br.imp{P:Program}{w:World}{K:PySem.W.Frag}{mg:Str->Option Value}{base:Heap}{CX:CXT}{k:Nat}{f:Addr}{fd:FuncData}{ps:List Str}{sp sp':Sp}(F:br P w K mg base CX k f fd ps sp)
  (h:∀vs H Q E,sp' vs H Q E->sp vs H Q E):br P w K mg base CX k f fd ps sp':=
 ⟨fun vs H Q E q=>F.len vs H Q E (h _ _ _ _ q),fun A outer s H args us vs Q E hr he hb hv hs=>F.run A outer s H args us vs Q E hr he hb hv (h _ _ _ _ hs)⟩
section
variable {X:Cx}{pins:List (Addr×Obj)}{σ:St}{H:Hp}{s s':Shared}
theorem Inv.R6(I:Inv X pins σ H s):NF X.prog X.w X.K X.mg X.base X.A X.stack s H:=
 ⟨I.ok.frames,I.ok.mod,I.bs,le_trans I.ok.bsz I.sz,I.stack,I.tL,I.hok,I.bare⟩
theorem Inv.after{Q:VK}{u:Value}(I:Inv X pins σ H s)(h:CE X.stack X.prog X.w H s Q u s'):EP X pins σ Q u s':=by
 obtain⟨v,H',os,bare,un,hok,r,q⟩:=h
 obtain⟨hh,g,d,t,os'⟩:=s'
 obtain rfl:os'=s.os:=os
 exact⟨v,H',I.call (h':=hh) (g':=g) (d':=d) (t':=t) (ch:=[]) un hok bare (fun b z=>absurd z (by simp)),r,q⟩
end
noncomputable def Ru(sp:Sp)(dvs:List V)(E:XK)(t:TA):TE:=fun σ H Q=>t σ H fun vs H1=>sp (vs++dvs) H1 Q E
noncomputable def Binds(K:PySem.W.Frag)(fd:FuncData)(ps:List Str)(ds:List Value):Prop:=
 ∀(s:Shared) (us:List Value),K.In s.heap->(us++ds).length=ps.length->BindsTo s fd ⟨us,[]⟩ (ps.zip (us++ds))
theorem Binds.all{K:PySem.W.Frag}{fd:FuncData}{ps:List Str}(h:∀us:List Value,us.length=ps.length->bindArgs fd ⟨us,[]⟩=pure (ps.zip us)):Binds K fd ps []:=fun s us _ hl=>by
 rw[append_nil] at hl ⊢
 exact .of_eq (h us hl)
noncomputable def Passes(CX:CXT)(X:Cx)(E:XK):Prop:=∀(pins:List (Addr×Obj)) (σ:St) (H:Hp) (s:Shared) (e:Value) (s':Shared),Inv X pins σ H s->CX X.stack H s E e s'->X.xe e s'
section
variable {X:Cx}{CX:CXT}{k:Nat}{f C:Addr}{fd:FuncData}{ps:List Str}{sp:Sp}{dvs:List V}{ds:List Value}{E:XK}{x m:Str}{p pos apos:Pos}{e o:Expr}{es:List Expr}{ta:TE}{t:TA}
theorem Qb{pins:List (Addr×Obj)}{σ:St}{H:Hp}{s:Shared}{Q:VK}{us:List Value}{vs:List V}(F:br X.prog X.w X.K X.mg X.base CX k f fd ps sp)(hr:nt k X.A)(hb:Binds X.K fd ps ds)(hd:Vals dvs ds)(hx:Passes CX X E)
  (I:Inv X pins σ H s) (r:Vals vs us) (h:sp (vs++dvs) H Q E):wpAny (model X.prog X.w) X.A (call (.ref f) us) (EP X pins σ Q) X.xe s:=by
 have r2:Vals (vs++dvs) (us++ds):=r.append hd
 have hl:(us++ds).length=ps.length:=by rw[<- r2.length];exact F.len _ _ _ _ h
 refine wpAny_call (codeAny_mono (F.run X.A X.stack s H ⟨us,[]⟩ (us++ds) (vs++dvs) Q E hr I.R6 (hb s us I.kIn hl) r2 h) fun r s' hq=>?_)
 cases r with
 |error e=>exact hx pins σ H s e s' I hq
 |ok fl=>
  cases fl with
  |ret u=>exact I.after hq
  |next=>exact False.elim hq
  |brk=>exact False.elim hq
  |cont=>exact False.elim hq
theorem NK(F:br X.prog X.w X.K X.mg X.base CX k f fd ps sp)(hr:nt k X.A)(hg:Gl X x)(hm:X.mg x=some (.ref f))(hk:keepIn X.K (.ref f)=true)(hb:Binds X.K fd ps ds)(hd:Vals dvs ds)(hx:Passes CX X E)
  (ha:PA X (e::es) t) (hdb:(x==("__debug__":Str))=false:=by decide) (he:starEach (e::es) X.env=(false,eval e X.env)::starEach es X.env:=by rfl) (hpl:(backTo pos (starEach es X.env)).any (·.1)=false:=by rfl) :
  PE X (.Call (.Name x p) (e::es) [] pos) (Ru sp dvs E t):=by
 intro pins s σ H Q I h
 refine wpAny_Call_Name_kw (HL I hg hm ?_ hdb)
 refine PySem.W.callWith_K (h₀:=X.base) I.ok.mod.kin hk (thn (ha pos pins s σ H _ I h) fun us s1 ⟨vs,H1,I1,r,q⟩=>⟨I1.kIn,?_⟩) he hpl
 exact Qb F hr hb hd hx I1 r q
end
structure aH(N P:List Str)(sc:Scope):Prop where
 kind:sc.kind = .function
 co:sc.isCoroutine=false
 gen:sc.isGenerator=false
 nd:N.Nodup
 pre:N.take P.length=P
 par:∀x∈P,sc.names.lookup x=some .local\/sc.names.lookup x=some .cell
 Pa:∀y∈sc.names,y.2≠.free
theorem AO{kindOf:Str->Option NameKind}{x:Str}:∀{binds:List (Str×Value)} {m:Str->Option Value},(∀v,(x,v) ∉ binds)->bindL kindOf binds m x=m x
 |[],_,_=>rfl
 |(n,v)::r,m,h=>by
  unfold bindL
  rw[AO fun w hw=>h w (mem_cons_of_mem _ hw)]
  split
  ·have:x≠n:=by rintro rfl;exact h v mem_cons_self
   simp[this]
  ·rfl
theorem AL{kindOf:Str->Option NameKind}{x:Str}:∀{binds:List (Str×Value)} {m:Str->Option Value},(∀v,(x,v) ∉ binds)->bindC kindOf binds m x=m x
 |[],_,_=>rfl
 |(n,v)::r,m,h=>by
  unfold bindC
  rw[AL fun w hw=>h w (mem_cons_of_mem _ hw)]
  split
  ·rfl
  ·have:x≠n:=by rintro rfl;exact h v mem_cons_self
   simp[this]
theorem AN{kindOf:Str->Option NameKind}{x:Str}{v:Value}:∀{P:List Str} {vs:List Value} {i:Nat} {m:Str->Option Value},P.Nodup->P[i]? = some x->vs[i]? = some v->kindOf x=some .local ->
  bindL kindOf (P.zip vs) m x=some v
 |[],_,_,_,_,h,_,_=>by simp at h
 |_::_,[],_,_,_,_,h,_=>by simp at h
 |p::P,w::vs,0,m,nd,h1,h2,hk=>by
  simp at h1 h2;subst h1;subst h2
  show bindL kindOf ((p,w)::P.zip vs) m p=_
  unfold bindL
  rw[AO fun v hv=>(List.nodup_cons.mp nd).1 (List.of_mem_zip hv).1,if_pos hk]
  simp
 |p::P,w::vs,i+1,m,nd,h1,h2,hk=>by
  show bindL kindOf ((p,w)::P.zip vs) m x=_
  unfold bindL
  exact AN (i:=i) (List.nodup_cons.mp nd).2 (by simpa using h1) (by simpa using h2) hk
theorem A5{kindOf:Str->Option NameKind}{x:Str}{v:Value}:∀{P:List Str} {vs:List Value} {i:Nat} {m:Str->Option Value},P.Nodup->P[i]? = some x->vs[i]? = some v->kindOf x≠some .local ->
  bindC kindOf (P.zip vs) m x=some v
 |[],_,_,_,_,h,_,_=>by simp at h
 |_::_,[],_,_,_,_,h,_=>by simp at h
 |p::P,w::vs,0,m,nd,h1,h2,hk=>by
  simp at h1 h2;subst h1;subst h2
  show bindC kindOf ((p,w)::P.zip vs) m p=_
  unfold bindC
  rw[AL fun v hv=>(List.nodup_cons.mp nd).1 (List.of_mem_zip hv).1,if_neg hk]
  simp
 |p::P,w::vs,i+1,m,nd,h1,h2,hk=>by
  show bindC kindOf ((p,w)::P.zip vs) m x=_
  unfold bindC
  exact A5 (i:=i) (List.nodup_cons.mp nd).2 (by simpa using h1) (by simpa using h2) hk
noncomputable def start(N:List Str)(vs:List V):St:=vs.map some++List.replicate (N.length-vs.length) none
noncomputable def GD(CX:CXT)(P:Program)(w:World)(K:PySem.W.Frag)(mg:Str->Option Value)(base:Heap)(N:List Str)(qual:Str)(scope:Scope)(f:Addr)(cd:Value)(A:Around)(outer:List Env)(s:Shared)(H:Hp)(E:XK):Cx where
 prog:=P
 w:=w
 K:=K
 mg:=mg
 base:=base
 A:=A.deeper (envOfC qual scope s.heap.objs.size f cd)
 N:=N
 gV:=s
 H₀:=H
 env:=envOfC qual scope s.heap.objs.size f cd
 outer:=outer
 stack:=envOfC qual scope s.heap.objs.size f cd::outer
 ex:=[]
 calm:=true
 fn:=fun _=>true
 pn:=[]
 xe:=fun e s'=>wpAny (model P w) (A.deeper (envOfC qual scope s.heap.objs.size f cd)) (leaving (envOfC qual scope s.heap.objs.size f cd) e) (fun _ s''=>CX outer H s E e s'') (fun e' s''=>CX outer H s E e' s'') s'
theorem Fq{sc:Scope}{n:Nat}{x:Str}(h:sc.names.lookup x=some .cell):∃c,(cellsFrom n sc.names []).lookup x=some c:=by
 have q:=PySem.W.cellsFrom_some sc.names n [] (.inl h)
 exact Option.isSome_iff_exists.mp q
theorem IV{CX:CXT}{P:Program}{w:World}{K:PySem.W.Frag}{mg:Str->Option Value}{base:Heap}{N ps:List Str}{qual:Str}{scope:Scope}{f:Addr}{cd:Value}{A:Around}{outer:List Env}{s s1:Shared}{H:Hp}{E:XK}{us:List Value}{vs:List V}
  (S:aH N ps scope) (hd:A.handled=none) (e0:NF P w K mg base A outer s H) (hl:vs.length=ps.length) (r:Vals vs us)
  (x:InCallC s s.heap.objs.size (bindL (envOfC qual scope s.heap.objs.size f cd).kindOf (ps.zip us) fun _=>none) (cellsFrom (s.heap.objs.size+1) scope.names []) (bindC (envOfC qual scope s.heap.objs.size f cd).kindOf (ps.zip us) fun _=>none) s1) :
  Inv (GD CX P w K mg base N qual scope f cd A outer s H E) [] (start N vs) H s1:=by
 have hpl:ps.length<=N.length:=by have:=congrArg List.length S.pre;rw[length_take] at this;omega
 obtain⟨h1,tk,rfl,hk⟩:=x.done
 have noA:∀b:Addr,b ∉ (GD CX P w K mg base N qual scope f cd A outer s H E).ex:=fun b z=>absurd (show b∈([]:List Addr) from z) (by simp)
 refine⟨⟨e0.mod,S.kind,rfl,rfl,le_refl _,fun y z c h1 h2=>?_,fun y hy=>?_,fun y c _ h=>?_,fun _=>hd,.inl hd,Around.frames_deeper e0.frames,.inr ⟨rfl,rfl⟩,fun b z=>absurd z (noA b),e0.bs,e0.bsz,fun b _ _=>noA b,fun b z=>absurd z (noA b),e0.xR,e0.frf⟩,
  rfl,e0.bare,Un.kept hk,⟨_,x.toInCall.ns,fun i y v h1 h2 h3=>?_⟩,fun y c h=>⟨_,x.cell y c h⟩,e0.hok.fresh (le_refl _),fun y c h=>?_,fun p hp=>absurd (show p∈([]:List (Addr×Obj)) from hp) (by simp),e0.hok.kept hk,?_⟩
 ·exact name_of_addr x.apart (mem_of_lookup h1) (mem_of_lookup h2)
 ·have hy:scope.names.lookup y=some .cell\/scope.names.lookup y=some .free:=hy
  rcases hy with hy|hy
  ·exact Fq hy
  ·exact absurd rfl (S.Pa _ (mem_of_lookup hy))
 ·exact Nat.le_of_lt (x.above y c (mem_of_lookup h))
 ·have hi:i<vs.length:=by
   unfold start at h2
   by_cases hi:i<vs.length
   ·exact hi
   ·rw[getElem?_append_right (by simpa using hi)] at h2
    rw[List.getElem?_replicate] at h2
    split at h2<;>cases h2
  have ha:vs[i]? = some v:=by
   unfold start at h2
   rw[getElem?_append_left (by simpa using hi),getElem?_map] at h2
   cases e:vs[i]? with
   |none=>rw[e] at h2;cases h2
   |some a=>rw[e] at h2;cases h2;rfl
  obtain⟨u,hu,rv⟩:=r.get ha
  have hp:ps[i]? = some y:=by
   rw[<- S.pre,List.getElem?_take_of_lt ∅];exact h1
  have ndP:ps.Nodup:=by rw[<- S.pre];exact S.nd.sublist (List.take_sublist _ _)
  refine⟨u,rv,?_⟩
  rcases S.par y (mem_of_getElem? hp) with k|k
  ·exact .inl ⟨k,AN ndP hp hu k⟩
  ·obtain⟨c,e⟩:=Fq (n:=s.heap.objs.size+1) k
   refine .inr ⟨.inl k,c,e,?_⟩
   have q:=x.cell y c e
   rw[A5 ndP hp hu (by show scope.names.lookup y≠_;rw[k];decide)] at q
   exact q
 ·exact e0.hok.fresh (Nat.le_of_lt (x.above y c (mem_of_lookup h)))
 ·unfold start
  show _=N.length
  rw[length_append,length_map,List.length_replicate]
  omega
theorem Qw{CX:CXT}{P:Program}{w:World}{K:PySem.W.Frag}{mg:Str->Option Value}{base:Heap}{k:Nat}{f:Addr}{name qual:Str}{params:Arguments}{body:List Stmt}{scope:Scope}{dV kV doc pm cdv ct oc:Value}{an od:Option Addr}
  {osl:Array (Option Value)} {N ps:List Str} {sp:Sp} (lk:K.lookup f=some ⟨oc,od,.func (fnOf name qual params body scope dV kV doc pm an cdv ct),osl⟩) (hcd:codeIn K cdv qual=true) (S:aH N ps scope)
  (len:∀vs H Q E,sp vs H Q E->vs.length=ps.length)
  (hbody:∀(A:Around) (outer:List Env) (s:Shared) (H:Hp) (vs:List V) (Q:VK) (E:XK),nt k (A.deeper (envOfC qual scope s.heap.objs.size f cdv))->sp vs H Q E ->
   ∃t,PSs (GD CX P w K mg base N qual scope f cdv A outer s H E) body t/\t {nx:=fun _ H'=>Q .non H',rt:=Q} (start N vs) H) :
  br P w K mg base CX (k+1) f (fnOf name qual params body scope dV kV doc pm an cdv ct) ps sp:=by
 refine⟨len,fun A outer s H args us vs Q E hr e0 hb r hsp=>?_⟩
 have hl:=len _ _ _ _ hsp
 have KX:K.In s.heap:=e0.mod.kin.keeps fun b o e=>(e0.bs b o e).1
 have lim:s.heap.NoLimit:=e0.mod.nolimit.keeps fun b o e=>(e0.bs b o e).1
 have hkind:∀y∈ps.zip us,scope.names.lookup y.1=some .local\/(scope.names.lookup y.1=some .cell/\((cellsFrom (s.heap.objs.size+1) scope.names []).lookup y.1).isSome=true):=fun ⟨n,v⟩ hy=>by
  rcases S.par n (List.of_mem_zip hy).1 with q|q
  ·exact .inl q
  ·exact .inr ⟨q,PySem.W.cellsFrom_some _ _ _ (.inl q)⟩
 refine codeAny_call_function hr.depth (KX _ _ lk) rfl S.co S.gen rfl (PySem.W.codeRec_of KX hcd) (hb _ _ _ _ ?_)
 refine wpAny_newFunctionEnv_cells S.kind hkind fun env he s1 x=>?_
 subst he
 refine⟨lim.keeps x.toInCall.keep,codeAny_func ?_⟩
 obtain⟨t,ht,hq⟩:=hbody A outer s H vs Q E (hr.deeper _) hsp
 have I:Inv (GD CX P w K mg base N qual scope f cdv A outer s H E) [] (start N vs) H s1:=IV S hr.hd e0 hl r x
 refine wpAny_mono (ht [] s1 (start N vs) H _ I hq) (fun fl s' hs=>?_) fun e s' hs=>hs
 have fin:∀{bn:St} {H':Hp} {v:V} {u:Value},Inv (GD CX P w K mg base N qual scope f cdv A outer s H E) [] bn H' s'->RelV v u->Q v H'->CE outer P w H s Q u s':=
  fun {bn H' v u} J rv q=>⟨v,H',J.os,J.bare,J.base,J.hok,rv,q⟩
 cases fl with
 |ret u=>
  obtain⟨v,bn,H',J,rv,q⟩:=hs
  exact fin J rv q
 |next=>
  obtain⟨bn,H',J,q⟩:=hs
  exact fin (v:=V.non) (u:=Value.none) J rfl q
 |brk=>
  obtain⟨_,_,_,q⟩:=hs
  exact False.elim q
 |cont=>
  obtain⟨_,_,_,q⟩:=hs
  exact False.elim q
end L2
namespace L2
open PySem PySem.Spec PyProof.Rows
section
variable {X:Cx}{x:Str}{p pos:Pos}{e:Expr}{es:List Expr}{t:TA}{id T:String}{r:List V->Hp->VK->Prop}
noncomputable def tCB(r:List V->Hp->VK->Prop)(t:TA):TE:=fun σ H Q=>t σ H fun vs H1=>r vs H1 Q
theorem Dr(hc:kE X (.builtin id) r)(hg:Gl X x)(hm:X.mg x=none)(hv:bootBuiltins x=some (.builtin id))(ha:PA X (e::es) t)(hn:x ≠ "__name__":=by decide)(hdb:(x==("__debug__":Str))=false:=by decide)
  (he:starEach (e::es) X.env=(false,eval e X.env)::starEach es X.env:=by rfl) (hpl:(backTo pos (starEach es X.env)).any (·.1)=false:=by rfl):PE X (.Call (.Name x p) (e::es) [] pos) (tCB r t):=by
 intro pins s σ H Q I h
 refine wpAny_Call_Name_kw (pA I hg hm hv ?_ hn hdb)
 exact PyProof.Rows.callWith_builtin1 (thn (ha pos pins s σ H _ I h) fun us s1 ⟨vs,H1,I1,r1,q1⟩=>hc pins s1 σ H1 vs us Q I1 r1 q1) he hpl
theorem Jb(hc:kE X (.type T) r)(hg:Gl X x)(hm:X.mg x=none)(hv:bootBuiltins x=some (.type T))(ha:PA X (e::es) t)(hn:x ≠ "__name__":=by decide)(hdb:(x==("__debug__":Str))=false:=by decide)
  (he:starEach (e::es) X.env=(false,eval e X.env)::starEach es X.env:=by rfl) (hpl:(backTo pos (starEach es X.env)).any (·.1)=false:=by rfl):PE X (.Call (.Name x p) (e::es) [] pos) (tCB r t):=by
 intro pins s σ H Q I h
 refine wpAny_Call_Name_kw (pA I hg hm hv ?_ hn hdb)
 exact PyProof.Rows.callWith_type1 (thn (ha pos pins s σ H _ I h) fun us s1 ⟨vs,H1,I1,r1,q1⟩=>hc pins s1 σ H1 vs us Q I1 r1 q1) he hpl
end
end L2
namespace HT
open PySem PyProof.Rows
section
open PySem.SeqAt
open PySem.AutoSeq1 (wpAny_loadPart')
open PySem.MeetsSeq PySem.MeetsSeq2 PySem.MeetsSeq3
end
section
variable {prog:Program}{w:World}{A:Around}{E:Value->Shared->Prop}{s:Shared}
noncomputable def sIx(n d:Nat):Option Int->Nat
 |none=>d
 |some v=>if v<0 then (v+(n:Int)).toNat else min v.toNat n
end
end HT
namespace L2
open PySem PySem.Spec PyProof.Rows
noncomputable abbrev TO:=St->Hp->(Option Int->Hp->Prop)->Prop
section
variable {X:Cx}{e:Expr}{te:TE}{lo hi:Option Expr}{tl th:TO}{pos p2:Pos}
noncomputable def SlR(X:Cx)(r:V->Option Int->Option Int->Hp->VK->Prop):Prop:=
 ∀(pins:List (Addr×Obj)) (s:Shared) (σ:St) (H:Hp) (x:V) (v vl vu:Value) (lo hi:Option Int) (sl:Addr) (Q:VK),Inv X pins σ H s->RelV x v->s.heap.IsSliceOf sl vl vu .none->IsPart vl lo->IsPart vu hi->r x lo hi H Q ->
  ∃T id,typeLookup (.type T) "__getitem__"=pure (some (.builtin id))/\s.TypeIs v T/\wpAny (model X.prog X.w) X.A (getItem v (.ref sl)) (EP X pins σ Q) X.xe s
noncomputable def Nu(xs:List V)(lo hi:Option Int):List V:=(xs.drop (HT.sIx xs.length 0 lo)).take (HT.sIx xs.length xs.length hi-HT.sIx xs.length 0 lo)
theorem Du(xs:List V)(lo hi:Option Int):(Nu xs lo hi).length<=xs.length:=by
 unfold Nu
 rw[length_take,List.length_drop]
 omega
end
end L2
namespace L2
open PySem PySem.Spec PyProof.Rows
noncomputable def ixN(n:Nat)(i:Int):Option Nat:=if 0<=i then (if i<n then some i.toNat else none) else if -(n:Int)<=i then some (i+n).toNat else none
noncomputable def atI{α:Type}(xs:List α)(i:Int):Option α:=(ixN xs.length i).bind fun j=>xs[j]?
theorem II{n:Nat}{i:Int}{j:Nat}(h:ixN n i=some j):seqIndex? i n=some j/\j<n/\-(n:Int)<=i/\i<n:=by
 unfold ixN at h
 by_cases h0:0<=i
 ·rw[if_pos h0] at h
  by_cases h1:i<n
  ·rw[if_pos h1] at h
   have e:i.toNat=j:=Option.some.inj h
   exact⟨by rw[seqIndex_of h0 h1,e],∅,∅,h1⟩
  ·rw[if_neg h1] at h;cases h
 ·rw[if_neg h0] at h
  by_cases h1:-(n:Int)<=i
  ·rw[if_pos h1] at h
   have e:(i+n).toNat=j:=Option.some.inj h
   exact⟨by rw[seqIndex_neg ∅ h1,e],∅,h1,∅⟩
  ·rw[if_neg h1] at h;cases h
theorem Di{α:Type}{xs:List α}{i:Int}{v:α}(h:atI xs i=some v):∃j,seqIndex? i xs.length=some j/\xs[j]? = some v/\j<xs.length/\-(xs.length:Int)<=i/\i<xs.length:=by
 unfold atI at h
 cases e:ixN xs.length i with
 |none=>rw[e] at h;cases h
 |some j=>
  rw[e] at h
  obtain⟨h1,h2,h3,h4⟩:=II e
  exact⟨j,h1,h,h2,h3,h4⟩
theorem mQ{α:Type}{xs:List α}{j:Nat}{v:α}(h:xs[j]? = some v):atI xs (j:Int)=some v:=by
 have hj:j<xs.length:=(List.getElem?_eq_some_iff.mp h).1
 have e:ixN xs.length (j:Int)=some j:=by
  unfold ixN
  rw[if_pos ∅,if_pos ∅];simp
 unfold atI;rw[e];exact h
theorem LX{α:Type}(xs:List α)(v:α):atI (xs++[v]) (-1)=some v:=by
 have hl:(xs++[v]).length=xs.length+1:=by simp
 have e:ixN (xs++[v]).length (-1)=some xs.length:=by
  unfold ixN
  rw[hl,if_neg ⋯,if_pos ∅]
  congr 1
  omega
 unfold atI
 rw[e]
 show (xs++[v])[xs.length]? = some v
 simp
noncomputable def Hs(b:Expr):Prop:=∀o i,subscripted b false o i=operate [o,i] (getItem o i)
noncomputable def IxR(X:Cx)(r:R2):Prop:=
 ∀(value slice:Expr) (pins:List (Addr×Obj)) (s:Shared) (σ:St) (H:Hp) (x y:V) (v u:Value) (Q:VK),Inv X pins σ H s->RelV x v->RelV y u->r x y H Q ->
  subscripted slice false v u=operate [v,u] (getItem v u)->wpAny (model X.prog X.w) X.A (subscriptTail value slice v u) (EP X pins σ Q) X.xe s
noncomputable def MtR(X:Cx)(id:String)(r:V->List V->Hp->VK->Prop):Prop:=
 ∀(pins:List (Addr×Obj)) (s:Shared) (σ:St) (H:Hp) (x:V) (xs:List V) (v:Value) (us:List Value) (Q:VK),Inv X pins σ H s->RelV x v->Vals xs us->r x xs H Q ->
  wpAny (model X.prog X.w) X.A (call (.builtin id) (v::us)) (EP X pins σ Q) X.xe s
section
variable {X:Cx}{a b:Expr}{ta tb:TE}{pos:Pos}
theorem IxR.or{r r':R2}(h:IxR X r)(h':IxR X r'):IxR X (fun x y H Q=>r x y H Q\/r' x y H Q):=by
 intro value slice pins s σ H x y v u Q I rx ry q hs
 rcases q with q|q
 ·exact h value slice pins s σ H x y v u Q I rx ry q hs
 ·exact h' value slice pins s σ H x y v u Q I rx ry q hs
theorem Ra{r:R2}(hr:IxR X r)(ha:PE X a ta)(hb:PE X b tb)(hs:Hs b):PE X (.Subscript a b pos) (tOp r ta tb):=by
 intro pins s σ H Q I h
 exact Subscript_ (OQ ha hb I h fun v u s2 x y H2 I2 rx ry q=>hr a b pins s2 σ H2 x y v u Q I2 rx ry q (hs _ _))
noncomputable def Rb(K:PySem.W.Frag):R2:=fun x y H Q=>∃p xs i v,x = .ref p/\y = .int i/\SqL K H p xs/\atI xs i=some v/\Q v H
noncomputable def Rn(K:PySem.W.Frag):R2:=fun x y H Q=>∃p xs i v,x = .ref p/\y = .int i/\SqT K H p xs/\atI xs i=some v/\Q v H
noncomputable def QZ:R2:=fun x y H Q=>∃z i c,x = .str z/\y = .int i/\z.length<=sizeLine/\atI z.cps.toList i=some c/\Q (.str ⟨#[c]⟩) H
theorem Nx:IxR X (Rb X.K):=by
 intro value slice pins s σ H x y v u Q I rx ry h hs
 obtain⟨p,xs,i,z,rfl,rfl,hq,he,q⟩:=h
 cases rx
 obtain⟨t,rfl⟩:=ry
 obtain⟨its,r,pl,hz⟩:=I.list hq
 obtain⟨j,h1,h2,h3,h4,h5⟩:=Di he
 obtain⟨w,ew,rw'⟩:=r.get h2
 have hl:=r.length
 have hn:=yF
 have fin:EP X pins σ Q w s:=⟨z,H,I,rw',q⟩
 by_cases h0:0<=i
 ·have hj:i.toNat=j:=by
   rw[seqIndex_of h0 h5] at h1
   exact Option.some.inj h1
  exact item_listR pl.isList h0 ∅ (by rw[hj];simpa using ew) fin hs
 ·have hj:(i+(its.toArray.size:Int)).toNat=j:=by
   rw[seqIndex_neg ∅ h4] at h1
   rw[size_toArray,<- hl]
   exact Option.some.inj h1
  exact subscriptTail_builtinR (x:=w) pl.isList.typeIs slot_list_getitem.lookup
   (wpAny_getItem_list_neg (Q:=fun r s'=>r=w/\EP X pins σ Q r s') pl.isList ∅ (by rw[size_toArray]<;>omega) ∅ (by rw[hj];simpa using ew) ⟨rfl,fin⟩) hs
theorem Ox:IxR X (Rn X.K):=by
 intro value slice pins s σ H x y v u Q I rx ry h hs
 obtain⟨p,xs,i,z,rfl,rfl,hq,he,q⟩:=h
 cases rx
 obtain⟨t,rfl⟩:=ry
 obtain⟨its,r,pl,hz⟩:=I.tuple hq
 obtain⟨j,h1,h2,h3,h4,h5⟩:=Di he
 obtain⟨w,ew,rw'⟩:=r.get h2
 have hl:=r.length
 have hn:=yF
 have fin:EP X pins σ Q w s:=⟨z,H,I,rw',q⟩
 exact subscriptTail_builtinR (x:=w) pl.typeIs slot_tuple_getitem.lookup
  (getItem_tuple (j:=j) (Q:=fun r s'=>r=w/\EP X pins σ Q r s') pl ∅ ∅ (by rw[size_toArray,<- hl];exact h1) (by simpa using ew) ⟨rfl,fin⟩) hs
theorem OI:IxR X QZ:=by
 intro value slice pins s σ H x y v u Q I rx ry h hs
 obtain⟨z,i,c,rfl,rfl,hz,he,q⟩:=h
 obtain⟨t,rfl⟩:=rx
 obtain⟨t',rfl⟩:=ry
 obtain⟨j,h1,h2,h3,h4,h5⟩:=Di he
 have hl:z.cps.toList.length=z.length:=by simp[Str.length]
 rw[hl] at h1 h4 h5
 have hn:=yF
 exact tail_any (typeIs_str s z t) slot_str_getitem.lookup (getItem_str (c:=c) (by
  have e1:decide (i < -(2 ^ 63:Int))=false:=decide_eq_false ∅
  have e2:decide (i ≥ 2 ^ 63)=false:=decide_eq_false ∅
  rw[e1,e2,Bool.or_false]) (by rw[h1];simpa using h2) ⟨.str ⟨#[c]⟩,H,I.tok _,⟨_,rfl⟩,q⟩) hs
noncomputable def rIx(K:PySem.W.Frag):R2:=fun x y H Q=>Rb K x y H Q\/Rn K x y H Q\/QZ x y H Q
theorem Ot:IxR X (rIx X.K):=Nx.or (Ox.or OI)
theorem FV(its:List Value)(n j:Nat)(u:Value):Obj.mapSeq (·.setIfInBounds j u) {cls:=.type "list",data:=.seq its.toArray n} = {cls:=.type "list",data:=.seq (its.set j u).toArray n}:=by
 simp[Obj.mapSeq]
theorem Inv.lst{pins:List (Addr×Obj)}{σ:St}{H:Hp}{s:Shared}{p:Addr}{xs:List V}(I:Inv X pins σ H s)(h:H p=some (.lst xs)) :
  ∃(its:List Value) (n:Nat),Vals xs its/\s.heap.get? p=some {cls:=.type "list",data:=.seq its.toArray n}/\xs.length<=sizeLine:=by
 obtain⟨z,its,n,r,e⟩:=I.hok p _ h
 exact⟨its,n,r,e,z⟩
theorem Inv.P9{pins:List (Addr×Obj)}{σ:St}{H:Hp}{s:Shared}{p:Addr}{xs ys:List V}{its its':List Value}{n n':Nat}{f:Obj->Obj}(I:Inv X pins σ H s)(h:H p=some (.lst xs))
  (ho:s.heap.get? p=some {cls:=.type "list",data:=.seq its.toArray n}) (hf:f {cls:=.type "list",data:=.seq its.toArray n} = {cls:=.type "list",data:=.seq its'.toArray n'}) (r:Vals ys its') (hz:ys.length<=sizeLine) (t:Nat) :
  Inv X pins σ (upd H p (.lst ys)) {s with heap:=s.heap.update p f,toks:=t}:=by
 have e:(s.heap.update p f).get? p=some {cls:=.type "list",data:=.seq its'.toArray n'}:=by
  rw[Heap.get?_update_self f ho (by rw[hf]<;>rfl),hf]
 refine I.write (x:=p) (e:=p) (by rw[h];trivial) (.inl rfl) (fun b u hb q=>(Heap.get?_update_other _ _ (Ne.symm hb)).trans q) ⟨_,e⟩ ?_
 exact⟨hz,its',n',r,e⟩
noncomputable def RO:V->V->V->Hp->(Hp->Prop)->Prop:=fun o i v H Q=>∃p xs k j,o = .ref p/\i = .int k/\H p=some (.lst xs)/\ixN xs.length k=some j/\Q (upd H p (.lst (xs.set j v)))
theorem set_list:Q5 X RO:=by
 intro pins s σ H o i v ov iv u Q I ro ri rv h
 obtain⟨p,xs,k,j,rfl,rfl,hp,hj,q⟩:=h
 cases ro
 obtain⟨t,rfl⟩:=ri
 obtain⟨its,n,r,ho,hz⟩:=I.lst hp
 obtain⟨h1,h2,h3,h4⟩:=II hj
 have hl:=r.length
 have hn:=yF
 have I':Inv X pins σ (upd H p (.lst (xs.set j v))) {s with heap:=s.heap.update p (Obj.mapSeq (·.setIfInBounds j u))}:=
  I.P9 hp ho (FV its n j u) (r.set rv j) (by rw[List.length_set];exact hz) s.toks
 by_cases h0:0<=k
 ·have hk:k.toNat=j:=by
   rw[seqIndex_of h0 h4] at h1
   exact Option.some.inj h1
  exact PySem.W.ki_setAt ho h0 ∅ (by rw[size_toArray,<- hl];exact h4) (by rw[hk];exact⟨_,I',q⟩)
 ·have hk:(k+(its.toArray.size:Int)).toNat=j:=by
   rw[seqIndex_neg ∅ h3] at h1
   rw[size_toArray,<- hl]
   exact Option.some.inj h1
  exact PySem.W.ki_setBack ho ∅ (by rw[size_toArray,<- hl];exact h3) ∅ (by rw[hk];exact⟨_,I',q⟩)
theorem CC(lo hi:Option Int)(n:Nat):(sliceBounds lo hi none n).1=((HT.sIx n 0 lo:Nat):Int)/\(sliceBounds lo hi none n).2.1=((HT.sIx n n hi:Nat):Int)/\(sliceBounds lo hi none n).2.2=1:=by
 refine⟨?_,?_,rfl⟩
 ·cases lo with
  |none=>simp[sliceBounds,HT.sIx]
  |some i=>
   simp only[sliceBounds,HT.sIx,Option.getD_none,show (1:Int)>0 by decide,if_true]
   by_cases h:i<0
   ·simp only[h,if_true]<;>omega
   ·simp only[h,if_false]<;>omega
 ·cases hi with
  |none=>simp[sliceBounds,HT.sIx]
  |some i=>
   simp only[sliceBounds,HT.sIx,Option.getD_none,show (1:Int)>0 by decide,if_true]
   by_cases h:i<0
   ·simp only[h,if_true]<;>omega
   ·simp only[h,if_false]<;>omega
theorem AB(its:List Value)(lo hi:Option Int):slicePick its.toArray lo hi none=((its.drop (HT.sIx its.length 0 lo)).take (HT.sIx its.length its.length hi-HT.sIx its.length 0 lo)).toArray:=by
 obtain⟨h1,h2,h3⟩:=CC lo hi its.toArray.size
 unfold slicePick
 rw[h1,h2,h3]
 simp only[sliceRange_one,pick_run,size_toArray]<;>rfl
noncomputable def Sa(K:PySem.W.Frag):V->Option Int->Option Int->Hp->VK->Prop:=fun x lo hi H Q=>∃a xs,x = .ref a/\SqL K H a xs/\∀p,H p=none->Q (.ref p) (upd H p (.lst (Nu xs lo hi)))
theorem RP:SlR X (Sa X.K):=by
 intro pins s σ H x v vl vu lo hi sl Q I rx hs pl pu h
 obtain⟨a,xs,rfl,hx,q⟩:=h
 cases rx
 obtain⟨its,r,ht,hz⟩:=I.list hx
 have hlen:=r.length
 refine⟨"list",_,slot_list_getitem.lookup,ht.isList.typeIs,?_⟩
 refine wpAny_getItem_list_slice ht.isList hs pl pu .none (by simp) ?_ (by rw[size_toArray]<;>omega)
 rw[AB,<- hlen]
 refine⟨.ref s.heap.objs.size,_,I.laid (t':=s.toks) (o:=.lst (Nu xs lo hi)) (fun b ob q=>Heap.get?_push_of_some _ q) (le_refl _) ?_,rfl,q _ (I.hok.fresh (le_refl _))⟩
 exact⟨le_trans (Du xs lo hi) hz,_,0,(r.drop (HT.sIx xs.length 0 lo)).take (HT.sIx xs.length xs.length hi-HT.sIx xs.length 0 lo),Heap.get?_push_size _ rfl⟩
theorem B8:kE X (.builtin "len") (fun xs H Q=>∃p ys,xs=[.ref p]/\(SqL X.K H p ys\/SqT X.K H p ys)/\Q (.int ys.length) H):=by
 intro pins s σ H xs us Q I r h
 obtain⟨p,ys,rfl,hq,q⟩:=h
 obtain⟨u,rfl,rx⟩:=vals1 r
 cases rx
 have hn:=yF
 rcases hq with hq|hq
 ·obtain⟨its,r',pl,hz⟩:=I.list hq
  have hlen:=r'.length
  exact Calls.call_len_list pl.isList (by simp only[size_toArray]<;>omega) ⟨.int ys.length,H,I.tok _,⟨s.toks+1,by rw[size_toArray,hlen]⟩,q⟩
 ·obtain⟨its,r',pl,hz⟩:=I.tuple hq
  have hlen:=r'.length
  exact len_tuple pl (by simp only[size_toArray]<;>omega) ⟨.int ys.length,H,I.tok _,⟨s.toks+1,by rw[size_toArray,hlen]⟩,q⟩
theorem zz:kE X (.type "tuple") (fun xs H Q=>∃p ys,xs=[.ref p]/\((SqL X.K H p ys/\∀l,H l=none->Q (.ref l) (upd H l (.tup ys)))\/(SqT X.K H p ys/\Q (.ref p) H))):=by
 intro pins s σ H xs us Q I r h
 obtain⟨p,ys,rfl,h⟩:=h
 obtain⟨u,rfl,rx⟩:=vals1 r
 cases rx
 rcases h with ⟨hq,q⟩|⟨hq,q⟩
 ·obtain⟨its,r',pl,hz⟩:=I.list hq
  have hlen:=r'.length
  refine call_tuple_list pl.isList (fun h' kp=>?_) (by simp only[size_toArray]<;>omega)
  have I1:Inv X pins σ H {s with heap:=h'}:=I.kept (t':=s.toks) kp
  have I2:Inv X pins σ (upd H h'.objs.size (.tup ys)) {s with heap:=h'.push {cls:=.type "tuple",data:=.seq its.toArray}}:=
   I1.laid (t':=s.toks) (fun b o e=>Heap.get?_push_of_some _ e) (le_refl _) (show jU X.prog X.w _ _ _ (.tup ys) from ⟨hz,its,r',IsTup.new _ _⟩)
  exact⟨.ref h'.objs.size,_,I2,rfl,q _ (I1.hok.fresh (le_refl _))⟩
 ·obtain⟨its,r',pl,hz⟩:=I.tuple hq
  exact call_tuple_same pl ⟨.ref p,H,I,rfl,q⟩
noncomputable def tyV(K:PySem.W.Frag)(T:String)(x:V)(H:Hp):Prop:=match x with
 |.str _=>T = "str"
 |.int _=>T = "int"
 |.ref p=>(T = "list"/\∃xs,SqL K H p xs)\/(T = "tuple"/\∃o,K.lookup p=some o/\o.cls = .type "tuple"/\o.dict=none) \/
   (T = "dict"/\((∃kvs,H p=some (.dK kvs))\/∃kvs,H p=some (.dT kvs)))\/(T = "set"/\∃S n,H p=some (.set S n))
 |_=>False
theorem OC{pins:List (Addr×Obj)}{σ:St}{H:Hp}{s:Shared}{T:String}{x:V}{v:Value}(I:Inv X pins σ H s)(r:RelV x v)(ty:tyV X.K T x H) :
  s.TypeIs v T/\∀a,v = .ref a->∃ob,s.heap.get? a=some ob/\ob.dict=none:=by
 cases x with
 |str z=>
  obtain⟨t,rfl⟩:=r
  cases (show T = "str" from ty)
  exact⟨typeIs_str s z t,fun _ e=>nomatch e⟩
 |int i=>
  obtain⟨t,rfl⟩:=r
  cases (show T = "int" from ty)
  exact⟨typeIs_int s i t,fun _ e=>nomatch e⟩
 |ref p=>
  cases r
  rcases ty with ⟨rfl,xs,hq⟩|⟨rfl,o,hk,hc,hd⟩|⟨rfl,hk⟩|⟨rfl,S,n,hk⟩
  ·obtain⟨its,_,pl,_⟩:=I.list hq
   refine⟨pl.isList.typeIs,fun a e=>?_⟩
   cases e
   obtain⟨o,n,e,c,hd,_⟩:=pl
   exact⟨o,e,hd⟩
  ·refine⟨⟨o,I.kIn p o hk,hc⟩,fun a e=>?_⟩
   cases e
   exact⟨o,I.kIn _ o hk,hd⟩
  ·have z:∃o,s.heap.get? p=some o/\o.ExactDict:=by
    rcases hk with ⟨kvs,hk⟩|⟨kvs,hk⟩
    ·obtain⟨_,_,_,_,o,_,_,e,ex,_⟩:=I.hok p _ hk
     exact⟨o,e,ex⟩
    ·obtain⟨_,_,_,_,o,_,_,e,ex,_⟩:=I.hok p _ hk
     exact⟨o,e,ex⟩
   obtain⟨o,e,ex⟩:=z
   refine⟨⟨o,e,ex.1⟩,fun a e2=>?_⟩
   cases e2
   exact⟨o,e,ex.2.1⟩
  ·obtain⟨o,_,_,_,e,ex,_⟩:=I.hok p _ hk
   refine⟨⟨o,e,ex.1⟩,fun a e2=>?_⟩
   cases e2
   exact⟨o,e,ex.2.1⟩
 |_=>exact False.elim ty
noncomputable def tBM(K:PySem.W.Frag)(T:String)(r:V->List V->Hp->VK->Prop)(to:TE)(t:TA):TE:=fun σ H Q=>to σ H fun x H1=>tyV K T x H1/\t σ H1 fun xs H2=>r x xs H2 Q
variable {o e:Expr}{es:List Expr}{to:TE}{t:TA}{name:Str}{apos cpos:Pos}{T id:String}{r:V->List V->Hp->VK->Prop}
theorem Im(pa:PlainAttrs T)(slot:Slot T name id)(hty:typeOf (.builtin id)=pure (.type "method_descriptor"))(hm:MtR X id r)(ho:PE X o to)(ha:PA X (e::es) t)
  (hbase:attributeBase o name X.env (eval o X.env)=eval o X.env:=by rfl)
  (hfew:((backTo cpos (starEach (e::es) X.env)).all (fun x=>!x.1)&&(backToKw cpos (keywordEach [] X.env)).all (fun x=>x.1.isSome)
   && decide ((e::es).length+([]:List Keyword).length+(if ([]:List Keyword).isEmpty then 0 else 1)<30))=true:=by rfl)
  (hline:(apos.endLine==cpos.line)=true:=by rfl) (hs:starEach (e::es) X.env=(false,eval e X.env)::starEach es X.env:=by rfl) (hplain:(backTo cpos (starEach es X.env)).any (·.1)=false:=by rfl) :
  PE X (.Call (.Attribute o name apos) (e::es) [] cpos) (tBM X.K T r to t):=by
 intro pins s σ H Q I h
 refine wpAny_Call_method_late hbase hfew hline rfl (thn (ho pins s σ H _ I h) fun v s1 hq0=>?_)
 obtain⟨x,H1,I1,r1,ty,q1⟩:=hq0
 obtain⟨h1,h2⟩:=OC I1 r1 ty
 refine⟨T,id,pa,slot,hty,h1,h2,?_⟩
 have hA:=ha cpos pins s1 σ H1 _ I1 q1
 rw[hs] at hA ⊢
 refine Calls.callWith_builtin (by show (false || (backTo cpos (starEach es X.env)).any (·.1))=false;rw[hplain]<;>rfl) (Calls.evalArgs_plain ?_)
 exact thn hA fun us s2 ⟨vs,H2,I2,r2,q2⟩=>hm pins s2 σ H2 x vs v us Q I2 r1 r2 q2
end
end L2
namespace L2
open PySem PySem.Spec PyProof.Rows
noncomputable def MtM(X:Cx)(id:String)(r:V->List V->Hp->VK->Prop):Prop:=
 ∀(pins:List (Addr×Obj)) (s:Shared) (σ:St) (H:Hp) (x:V) (xs:List V) (v:Value) (us:List Value) (Q:VK),Inv X pins σ H s->RelV x v->Vals xs us->r x xs H Q ->
  wpAny (model X.prog X.w) X.A (call (.builtin id) (v::us)) (EP X pins σ Q) X.xe s
theorem Vals.one:∀{x:V} {us:List Value},Vals [x] us->∃u,us=[u]/\RelV x u
 |_,_,.cons r .nil=>⟨_,rfl,r⟩
theorem Vals.dropLast{xs:List V}{us:List Value}(h:Vals xs us):Vals xs.dropLast us.dropLast:=by
 induction h with
 |nil=>exact .nil
 |cons r t ih=>
  cases t with
  |nil=>exact .nil
  |cons q t'=>exact .cons r ih
theorem Vals.eraseIdx:∀{xs:List V} {us:List Value} (i:Nat),Vals xs us->Vals (xs.eraseIdx i) (us.eraseIdx i)
 |_,_,_,.nil=>.nil
 |_,_,0,.cons _ t=>t
 |_,_,i+1,.cons r t=>.cons r (Vals.eraseIdx i t)
theorem Vals.rep{xs:List V}{us:List Value}(h:Vals xs us):∀k:Nat,Vals (List.replicate k xs).flatten (List.replicate k us).flatten
 |0=>.nil
 |k+1=>by
  rw[replicate_succ,replicate_succ,flatten_cons,flatten_cons]
  exact Vals.append h (Vals.rep h k)
theorem A6{α:Type}:∀(l:List α) (i:Nat),(l.eraseIdx i).length<=l.length
 |[],_=>le_refl _
 |_::_,0=>Nat.le_succ _
 |_::r,i+1=>Nat.succ_le_succ (A6 r i)
theorem foldl_rep(its:List Value):∀(k:Nat) (acc:List Value),
  List.foldl (fun x1 x2=>x1++x2) acc.toArray (List.replicate k its.toArray)=(acc++(List.replicate k its).flatten).toArray
 |0,acc=>by simp
 |k+1,acc=>by
  have e:acc.toArray++its.toArray=(acc++its).toArray:=by simp
  have e2:(acc++its)++(List.replicate k its).flatten=acc++(List.replicate (k+1) its).flatten:=by
   rw[replicate_succ,flatten_cons,append_assoc]
  rw[<- e2,<- foldl_rep its k (acc++its),<- e,replicate_succ,List.foldl_cons]
section
variable {X:Cx}{pins:List (Addr×Obj)}{σ:St}{H:Hp}{s:Shared}{l b:Addr}{xs ys zs:List V}
theorem Inv.Nq{its its':List Value}{n:Nat}{f:Array Value->Array Value}{t':Nat}(I:Inv X pins σ H s)(hH:H l=some (.lst xs))
  (e:s.heap.get? l=some {cls:=.type "list",data:=.seq its.toArray n}) (hf:f its.toArray=its'.toArray) (hv:Vals ys its') (hz:ys.length<=sizeLine) :
  Inv X pins σ (upd H l (.lst ys)) {s with heap:=s.heap.update l (Obj.mapSeq f),toks:=t'}:=by
 have q:=PySem.IsL.update e f
 rw[hf] at q
 refine I.write (x:=l) (e:=l) (by rw[hH];exact trivial) (.inl rfl) (fun b' u hb hu=>(Heap.get?_update_other s.heap (Obj.mapSeq f) (Ne.symm hb)).trans hu) ⟨_,q⟩ ?_
 exact⟨hz,its',_,hv,q⟩
theorem Inv.RS{its:List Value}{t':Nat}(I:Inv X pins σ H s)(hv:Vals ys its)(hz:ys.length<=sizeLine) :
  Inv X pins σ (upd H s.heap.objs.size (.lst ys)) {s with heap:=s.heap.push {cls:=.type "list",data:=.seq its.toArray},toks:=t'}:=
 I.laid (fun _ _ q=>Heap.get?_push_of_some _ q) (le_refl _) ⟨hz,its,0,hv,Heap.get?_push_size _ rfl⟩
theorem Inv.fresh(I:Inv X pins σ H s):H s.heap.objs.size=none:=I.hok.fresh (le_refl _)
theorem Inv.Ja(I:Inv X pins σ H s)(hH:H l=some (.lst xs)):xs.length<=sizeLine/\∃(its:List Value) (n:Nat),Vals xs its/\xs.length=its.length/\s.heap.get? l=some {cls:=.type "list",data:=.seq its.toArray n}:=by
 obtain⟨z,its,n,r,e⟩:=I.hok l _ hH
 exact⟨z,its,n,r,r.length,e⟩
theorem EK{n:Nat}(h:n<=sizeLine):Builtin.List.listTooLong n=false:=by
 unfold Builtin.List.listTooLong
 exact decide_eq_false ∅
end
section
variable {X:Cx}
noncomputable def Nm:V->List V->Hp->VK->Prop:=fun x vs H Q=>∃l xs y,x = .ref l/\vs=[y]/\H l=some (.lst xs)/\xs.length<sizeLine/\Q .non (upd H l (.lst (xs++[y])))
theorem pX:MtM X "list.append" Nm:=by
 intro pins s σ H x vs v us Q I rx rv h
 obtain⟨l,xs,y,rfl,rfl,hH,hz,q⟩:=h
 cases rx
 obtain⟨u,rfl,ru⟩:=rv.one
 obtain⟨z,its,n,r,hl,e⟩:=I.Ja hH
 refine call_meets F.slot_list_append ⟨_,e,rfl⟩ F.entry_list_append (F.args_list_append_2 _ _) (PySem.list_append l its.toArray n u (by rw[size_toArray];omega)) ⟨e,?_⟩
 refine⟨.non,_,I.Nq (its':=its++[u]) hH e (by simp) (r.append (.cons ru .nil)) ?_,rfl,q⟩
 rw[length_append,List.length_singleton]
 omega
noncomputable def Nk:V->List V->Hp->VK->Prop:=fun x vs H Q=>∃l b xs zs,x = .ref l/\vs=[.ref b]/\H l=some (.lst xs)/\H b=some (.lst zs)/\xs.length+zs.length<=sizeLine/\Q .non (upd H l (.lst (xs++zs)))
theorem IW:MtM X "list.extend" Nk:=by
 intro pins s σ H x vs v us Q I rx rv h
 obtain⟨l,b,xs,zs,rfl,rfl,hH,hB,hz,q⟩:=h
 cases rx
 obtain⟨u,rfl,ru⟩:=rv.one
 cases ru
 obtain⟨z,its,n,r,hl,e⟩:=I.Ja hH
 obtain⟨z2,its2,n2,r2,hl2,e2⟩:=I.Ja hB
 have hsz:its.toArray.size+its2.toArray.size<=sizeLine:=by rw[size_toArray,size_toArray];omega
 have hlong:¬ (!its.toArray.isEmpty&&Builtin.List.listTooLong (its.toArray.size+its2.toArray.size))=true:=by
  rw[EK hsz,Bool.and_false]
  exact Bool.false_ne_true
 refine call_meets F.slot_list_extend ⟨_,e,rfl⟩ F.entry_list_extend (F.args_list_extend_2 _ _)
  (AutoSeq1.list_extend_list_list_0 l its.toArray n b its2.toArray n2 hlong (by rw[size_toArray];omega) ∅) ⟨e,e2,?_⟩
 refine⟨.non,_,I.Nq (its':=its++its2) hH e (by simp) (r.append r2) ?_,rfl,q⟩
 rw[length_append]
 omega
noncomputable def P5:V->List V->Hp->VK->Prop:=fun x vs H Q=>∃l xs i k y,x = .ref l/\vs=[.int i]/\H l=some (.lst xs)/\-(2 ^ 63)<=i/\i<2 ^ 63/\seqIndex? i xs.length=some k/\xs[k]? = some y/\Q y (upd H l (.lst (xs.eraseIdx k)))
theorem LU:MtM X "list.pop" P5:=by
 intro pins s σ H x vs v us Q I rx rv h
 obtain⟨l,xs,i,k,y,rfl,rfl,hH,h1,h2,hk,hy,q⟩:=h
 cases rx
 obtain⟨u,rfl,ru⟩:=rv.one
 obtain⟨t,rfl⟩:=ru
 obtain⟨z,its,n,r,hl,e⟩:=I.Ja hH
 obtain⟨w,hw,rw'⟩:=r.get hy
 refine call_meets F.slot_list_pop ⟨_,e,rfl⟩ F.entry_list_pop (F.args_list_pop_2 _ _)
  (MeetsSeq.list_pop_at l its.toArray n i t k w (fitsIndex_both h1 h2) (by rw[size_toArray,<- hl];exact hk) (by rw[<- Array.getElem?_toList];exact hw) (by rw[size_toArray];omega)) ⟨e,?_⟩
 refine⟨y,_,I.Nq (its':=its.eraseIdx k) hH e ?_ (r.eraseIdx k) ?_,rw',q⟩
 ·show its.toArray.eraseIdxIfInBounds k=(its.eraseIdx k).toArray
  rw[List.eraseIdxIfInBounds_toArray]
 ·have:=A6 xs k
  omega
noncomputable def Qz:R2:=fun x y H Q=>∃l k xs,x = .ref l/\y = .int k/\H l=some (.lst xs)/\-(2 ^ 63)<=k/\k<2 ^ 63/\xs.length*k.toNat<=sizeLine /\
 ∀p,H p=none->Q (.ref p) (upd H p (.lst (List.replicate k.toNat xs).flatten))
theorem len_rep{α:Type}(xs:List α)(k:Nat):(List.replicate k xs).flatten.length=k*xs.length:=by
 induction k with
 |zero=>simp
 |succ k ih=>rw[replicate_succ,flatten_cons,length_append,ih,Nat.succ_mul,Nat.add_comm]
theorem PU:OpR X (binaryOp .Mult) Qz:=by
 intro pins s σ H x y v u Q I rx ry h
 obtain⟨l,k,xs,rfl,rfl,hH,h1,h2,hz,q⟩:=h
 cases rx
 obtain⟨t,rfl⟩:=ry
 obtain⟨z,its,n,r,hl,e⟩:=I.Ja hH
 have hlen:its.toArray.size*k.toNat<=sizeLine:=by rw[size_toArray,<- hl];exact hz
 have hcap:¬ its.toArray.size*k.toNat>(2 ^ 63-1) / 8:=by
  have:(sizeLine:Nat)<=(2 ^ 63-1) / 8:=by decide
  omega
 have hfit:¬ (!Builtin.List.listFitsIndex k)=true:=by
  rw[fitsIndex_both h1 h2]
  exact Bool.false_ne_true
 have hlong:¬ Builtin.List.listTooLong (its.toArray.size*k.toNat)=true:=by
  rw[EK hlen]
  exact Bool.false_ne_true
 have hnew:List.foldl (fun x1 x2=>x1++x2) #[] (List.replicate (if its.toArray.isEmpty=true then 0 else k.toNat) its.toArray)=(List.replicate k.toNat its).flatten.toArray:=by
  have f0:∀m:Nat,List.foldl (fun x1 x2=>x1++x2) #[] (List.replicate m its.toArray)=(List.replicate m its).flatten.toArray:=fun m=>by
   have:=foldl_rep its m []
   rw[List.nil_append] at this
   exact this
  rw[f0]
  cases its with
  |nil=>simp
  |cons a r'=>rw[if_neg (by simp)]
 refine wpAny_binaryOp_repeat_ref (T:="list") (U:="int") ⋯ ⟨_,e,rfl⟩ (fun s'=>typeIs_int s' k t) noFill_list_mul F.fills_int_mul F.slot_int_rmul repeat_list F.slot_int_index.lookup
  (call_meets F.slot_int_rmul (typeIs_int s k t) F.entry_int_rmul (F.args_int_rmul_2 _ _) (int___rmul___int_list k t l its.toArray n)
   ⟨e,rfl,⟨_,e,rfl⟩,call_meets F.slot_list_mul ⟨_,e,rfl⟩ F.entry_list_mul (F.args_list_mul_2 _ _) (AutoListH.list___mul___list_int_3 l its.toArray n k t hfit hcap hlong) ⟨e,?_⟩⟩)
 rw[hnew]
 exact⟨.ref _,_,I.RS (t':=s.toks) (r.rep k.toNat) (by rw[len_rep,Nat.mul_comm];exact hz),rfl,q _ I.fresh⟩
end
end L2
namespace Att
open PySem PySem.W PySem.Calls PyProof.Rows
theorem wc{P:Params}{h:Heap}:∀(ns:List Int) (vs:List Value),WellAll P h vs (ns.map WData.int)->IntsAre vs ns:=by
 intro ns
 induction ns with
 |nil=>
  intro vs w
  rw[map_nil] at w
  cases w
  exact .nil
 |cons n ns ih=>
  intro vs w
  rw[map_cons] at w
  cases w with
  |cons a b=>
   cases a
   exact .cons _ _ (ih _ b)
theorem IZ{l:OpenLaw}{n:Nat}(hn:l.most=some n){P:Params}{h:Heap}{args:List WData}{vals:List Value}
  (hpre:l.row.toRowW.claim.pre args=true) (hwl:WellAll P h vals args) :
  ∃a vs ns,vals=[Value.ref a]/\args=[WData.list (ns.map WData.int)]/\h.get? a=some {cls:=.type "list",data:=.seq vs.toArray}/\IntsAre vs ns/\ns.length<=n:=by
 have hsh:WShape.hasAll [] args [.list .int]=true:=(pre_splitW hpre).1
 have hc:l.pre.holds [] {args:=args} = true:=(pre_splitW hpre).2
 obtain⟨d,r,rfl,h1,h2⟩:=hasAllW_cons hsh
 obtain rfl:=hasAllW_nil h2
 obtain⟨xs,rfl,h3⟩:=hasW_list h1
 obtain⟨ns,rfl⟩:=items_int h3
 have hlen:ns.length<=n:=by
  unfold OpenLaw.pre at hc
  have h4:(WTm.not (.lt (.lit (.int (n:Int))) (.len (.arg 0)))).holds [] {args:=[.list (ns.map .int)]} = true:=by
   have h4:=(holds_andW hc).1
   rw[hn] at h4
   exact h4
  have h5:=condW_of h4 (w_not (w_lt w_lit (w_len_list (w_arg rfl))))
  rw[length_map] at h5
  refine Nat.le_of_not_lt fun q=>?_
  have q':(n:Int)<((ns.length:Nat):Int):=by omega
  first
   |(rw[decide_eq_true q'] at h5;exact absurd h5 ⋯)
   |(simp at h5;omega)
 cases hwl with
 |cons w1 w2=>
  cases w2
  cases w1 with
  |list ho hall=>exact⟨_,_,ns,rfl,rfl,ho,wc ns _ hall,hlen⟩
theorem JP(l:OpenLaw)(args:List WData):l.row.toRowW.claim.post args (.bool true) args=true:=
 postW_of (r:=l.row.toRowW) (X:=(true==true))
  (show WShape.has [] (.bool true) .bool=true by first|rfl|decide|simp[WShape.has,WShape.arms,WShape.armsAll])
  (show (WTm.eq .res (.lit (.bool true))).value [] {args:=args,res:=some (.bool true),after:=args} = some (.bool (true==true)) from w_eq_bool (w_res rfl) w_lit) rfl
theorem EU{l:OpenLaw}{n:Nat}{q:Program}{loose:List Str}{XP:(Str->Option Value)->Heap->Prop}{YP:World->Heap->Prop}{d:DefRec}
  (hn:l.most=some n) (hdf:d.params.defaults=[])
  (call:∀(w:World) (gV ca:Shared) (mg mb:Str->Option Value) (fa:Addr) (o:Obj) (pm cd doc:Value) (a:Addr) (vs:List Value) (ns:List Int),
   Ground q loose [] XP w gV mg mb ca.heap->YP w ca.heap ->
   ca.heap.get? fa=some o->o.data = .func (docDef d.name d.params d.body d.scope pm cd doc)->ca.heap.CodeRec cd d.name->mg d.name=some (.ref fa) ->
   ca.heap.get? a=some {cls:=.type "list",data:=.seq vs.toArray}->IntsAre vs ns->ns.length<=n->ca.gens = #[] ->
   codeAny (model l.prog w) callerA (.call (.ref fa) ⟨[.ref a],[]⟩) (fun r s'=>r = .ok (.ret (.bool true))/\OldK ca.heap s'.heap/\s'.os=ca.os/\AllBare s'.gens) ca) :
  WalkO q loose XP YP l.row.toRowW d [] (fun f vs=>PySem.call f vs):=by
 intro w gV ca mg mb G Y fa o pm cd doc dV kV ho hd hcd hD hmg hg args vals as hpre hlay hrd hwl hlo
 obtain rfl:dV = .none:=Dflts.none hD hdf
 obtain rfl:kV = .none:=Dflts.noKw hD
 obtain⟨a,vs,ns,rfl,rfl,hobj,hints,hlen⟩:=IZ hn hpre hwl
 refine enter_call (codeAny_mono (call w gV ca mg mb fa o pm cd doc a vs ns G Y ho (fd_plain hd) hcd hmg hobj hints hlen hg) fun r s' hq=>?_)
 obtain⟨rfl,h2,h3,h4⟩:=hq
 exact⟨.inl ⟨.bool true,.bool true,[],rfl,fun _=>rfl,.bool true,JP l _,fun _=>⟨List.Pairwise.nil,fun _ hm=>(nomatch hm)⟩⟩,h2,h3,h4⟩
end Att
namespace L2
open PySem PySem.Spec PyProof.Rows
theorem AM:∀{vs:List Value} {ns:List Int},IntsAre vs ns->Vals (ns.map V.int) vs
 |_,_,.nil=>.nil
 |_,_,.cons n t h=>.cons ⟨t,rfl⟩ (AM h)
end L2
namespace L2
open PySem PySem.Spec PyProof.Rows
end L2
namespace L2
open PySem PySem.Spec PyProof.Rows
noncomputable abbrev CX0:CXT:=fun _ _ _ _ _ _=>False
noncomputable abbrev E0:XK:=fun _ _ _=>False
theorem Rt{X:Cx}:Passes CX0 X E0:=fun _ _ _ _ _ _ _ h=>h.elim
structure Fun(K:PySem.W.Frag)(x qual:Str)(st:Stmt)(f:Addr)(fd:FuncData):Prop where
 ex:∃(oc:Value) (od:Option Addr) (kV doc pm:Value) (an:Option Addr) (cdv ct:Value) (osl:Array (Option Value)),
  fd=fnOf x qual (ky st) (jw st) (ay st) .none kV doc pm an cdv ct/\K.lookup f=some ⟨oc,od,.func fd,osl⟩/\codeIn K cdv qual=true
 kp:keepIn K (.ref f)=true
section
variable {P:Program}{w:World}{K:PySem.W.Frag}{mg:Str->Option Value}{base:Heap}
theorem Fun.ok{x qual:Str}{st:Stmt}{f:Addr}{fd:FuncData}{N ps:List Str}{k:Nat}{sp:Sp}(F:Fun K x qual st f fd)(S:aH N ps (ay st))(len:∀vs H Q E,sp vs H Q E->vs.length=ps.length)
  (hbody:∀(cdv:Value) (A:Around) (outer:List Env) (s:Shared) (H:Hp) (vs:List V) (Q:VK) (E:XK),nt k (A.deeper (envOfC qual (ay st) s.heap.objs.size f cdv))->sp vs H Q E ->
   ∃t,PSs (GD CX0 P w K mg base N qual (ay st) f cdv A outer s H E).nox (jw st) t/\t {nx:=fun _ H'=>Q .non H',rt:=Q} (start N vs) H):br P w K mg base CX0 (k+1) f fd ps sp:=by
 obtain⟨oc,od,kV,doc,pm,an,cdv,ct,osl,rfl,lk,hcd⟩:=F.ex
 refine Qw lk hcd S len fun A outer s H vs Q E hr hsp=>?_
 obtain⟨t,h,q⟩:=hbody cdv A outer s H vs Q E hr hsp
 exact⟨t,h.nox,q⟩
theorem Fun.binds{x qual:Str}{st:Stmt}{f:Addr}{fd:FuncData}{ps:List Str}(F:Fun K x qual st f fd)
  (h:∀(kV doc pm:Value) (an:Option Addr) (cdv ct:Value) (us:List Value),us.length=ps.length->bindArgs (fnOf x qual (ky st) (jw st) (ay st) .none kV doc pm an cdv ct) ⟨us,[]⟩=pure (ps.zip us)):Binds K fd ps []:=by
 obtain⟨oc,od,kV,doc,pm,an,cdv,ct,osl,rfl,lk,hcd⟩:=F.ex
 exact .all (h kV doc pm an cdv ct)
theorem aT{x qual:Str}{st:Stmt}{f:Addr}{oc:Value}{od an:Option Addr}{osl:Array (Option Value)}{kV doc pm cdv ct:Value}(l:K.lookup f=some ⟨oc,od,.func (fnOf x qual (ky st) (jw st) (ay st) .none kV doc pm an cdv ct),osl⟩)
  (c:codeIn K cdv qual=true) (k:keepIn K (.ref f)=true):Fun K x qual st f (fnOf x qual (ky st) (jw st) (ay st) .none kV doc pm an cdv ct):=⟨⟨oc,od,kV,doc,pm,an,cdv,ct,osl,rfl,l,c⟩,k⟩
end
theorem fK{n:Nat}(h:n<=1000):n<sizeLine:=Nat.lt_of_le_of_lt h ⋯
theorem zL{A B:Prop}(h:B):if false=true then A else B:=by
 rw[if_neg Bool.false_ne_true]
 exact h
theorem zo{A B:Prop}(h:A):if true=true then A else B:=by
 rw[if_pos rfl]
 exact h
noncomputable def Am(H H':Hp):Prop:=∀b o,H b=some o->H' b=some o
theorem Am.refl(H:Hp):Am H H:=fun _ _ h=>h
end L2
namespace ST
open PySem PySem.SetTable
noncomputable def fiv(M x:Nat):Nat:=(x*5+1) % M
noncomputable def itf(M:Nat):Nat->Nat->Nat
 |0,x=>x
 |n+1,x=>fiv M (itf M n x)
noncomputable def geo:Nat->Nat
 |0=>0
 |p+1=>5*geo p+1
theorem M5:∀p,4*geo p+1=5 ^ p
 |0=>rfl
 |p+1=>by
  have:=M5 p
  rw[geo,pow_succ]
  omega
theorem Hq:∀p,geo p % 2=p % 2
 |0=>rfl
 |p+1=>by
  have:=Hq p
  rw[geo]
  omega
theorem Na(q:Nat):geo (2*q)=geo q*(2*geo q+1)*2:=by
 have h1:=M5 (2*q)
 have h2:=M5 q
 have h3:5 ^ (2*q)=5 ^ q*5 ^ q:=by rw[<- Nat.pow_add];congr 1;omega
 rw[h3,<- h2] at h1
 have h4:(4*geo q+1)*(4*geo q+1)=4*(geo q*(2*geo q+1)*2)+1:=by
  generalize geo q=g
  have:geo q=geo q:=rfl
  simp only[Nat.add_mul,Nat.mul_add,Nat.mul_assoc,Nat.mul_one,Nat.one_mul]
  have e1:g*(4*g)=4*(g*g):=by rw[Nat.mul_left_comm]
  have e2:g*(2*(g*2))=4*(g*g):=by rw[Nat.mul_left_comm,<- Nat.mul_assoc g g 2];omega
  rw[e1,e2]
  omega
 rw[h4] at h1
 omega
theorem Iv:∀k p:Nat,2 ^ k ∣ geo p->2 ^ k ∣ p
 |0,p,_=>by rw[Nat.pow_zero];exact Nat.one_dvd p
 |k+1,p,h=>by
  have h2:2 ∣ geo p:=Nat.dvd_trans ⟨2 ^ k,by rw[pow_succ,Nat.mul_comm]⟩ h
  have hp:p % 2=0:=by rw[<- Hq];omega
  obtain⟨q,rfl⟩:∃q,p=2*q:=⟨p / 2,∅⟩
  rw[Na,pow_succ] at h
  have h3:=Nat.dvd_of_mul_dvd_mul_right (by decide:0<2) h
  have co:Nat.Coprime (2 ^ k) (2*geo q+1):=by
   refine Nat.Coprime.pow_left k ?_
   unfold Nat.Coprime
   rw[Nat.gcd_rec]
   have:(2*geo q+1) % 2=1:=by omega
   rw[this]
   decide
  have h4:=Iv k q (co.dvd_of_dvd_mul_right h3)
  rw[pow_succ,Nat.mul_comm 2 q]
  exact Nat.mul_dvd_mul_right h4 2
theorem Md{M a b:Nat}(h:a % M=b % M):(a*5+1) % M=(b*5+1) % M:=by
 rw[Nat.add_mod,Nat.mul_mod,h,<- Nat.mul_mod,<- Nat.add_mod]
theorem HP(M:Nat)(x:Nat):∀n,itf M n x % M=(5 ^ n*x+geo n) % M
 |0=>by rw[itf,geo,Nat.pow_zero,Nat.one_mul,Nat.add_zero]
 |n+1=>by
  rw[itf,fiv,Nat.mod_mod,Md (HP M x n),geo,pow_succ]
  congr 1
  rw[Nat.add_mul,Nat.mul_right_comm,Nat.mul_comm (geo n) 5];omega
theorem HY(M:Nat)(a x:Nat):∀b,itf M (a+b) x=itf M b (itf M a x)
 |0=>rfl
 |b+1=>by show fiv M (itf M (a+b) x)=_;rw[HY M a x b];rfl
theorem cyc{k p x:Nat}(h:(5 ^ p*x+geo p) % 2 ^ k=x % 2 ^ k):2 ^ k ∣ p:=by
 refine Iv k p ?_
 have h1:=Nat.sub_mod_eq_zero_of_mod_eq h
 have e:5 ^ p*x+geo p-x=geo p*(4*x+1):=by
  rw[<- M5 p,Nat.add_mul,Nat.mul_add,Nat.mul_one,Nat.one_mul]
  have:4*geo p*x=geo p*(4*x):=by rw[Nat.mul_comm 4,Nat.mul_assoc]
  omega
 rw[e] at h1
 have co:Nat.Coprime (2 ^ k) (4*x+1):=by
  refine Nat.Coprime.pow_left k ?_
  unfold Nat.Coprime
  rw[Nat.gcd_rec]
  have:(4*x+1) % 2=1:=by omega
  rw[this]
  decide
 exact co.dvd_of_dvd_mul_right (Nat.dvd_of_mod_eq_zero h1)
theorem Ny{k a b x:Nat}(h:a<b)(hb:b<2 ^ k)(hx:itf (2 ^ k) a x=itf (2 ^ k) b x):False:=by
 obtain⟨p,rfl⟩:∃p,b=a+p:=⟨b-a,∅⟩
 rw[HY] at hx
 have h1:=HP (2 ^ k) (itf (2 ^ k) a x) p
 rw[<- hx] at h1
 have h2:=Nat.le_of_dvd ∅ (cyc h1.symm)
 omega
theorem pig:∀(l O:List Nat),l.Nodup->(∀x∈l,x∈O)->l.length<=O.length
 |[],_,_,_=>zero_le _
 |a::l,O,h,s=>by
  rw[List.nodup_cons] at h
  have ha:=s a (mem_cons_self ..)
  have:=pig l (O.erase a) h.2 fun x hx=>(List.mem_erase_of_ne (fun z=>h.1 (by rw[<- z];exact hx))).mpr (s x (mem_cons_of_mem _ hx))
  rw[List.length_erase_of_mem ha] at this
  have:0<O.length:=List.length_pos_of_mem ha
  rw[length_cons]
  omega
theorem JN{k:Nat}{O:List Nat}(x:Nat)(hc:O.length<2 ^ k):∃r,r<=O.length/\itf (2 ^ k) r x ∉ O:=by
 by_cases h:∃r,r<=O.length/\itf (2 ^ k) r x ∉ O
 ·exact h
 exfalso
 have a:∀r,r<=O.length->itf (2 ^ k) r x∈O:=fun r hr=>Classical.byContradiction fun z=>h ⟨r,hr,z⟩
 have:=pig ((List.range (O.length+1)).map fun r=>itf (2 ^ k) r x) O ?_ fun y hy=>?_
 ·rw[length_map,List.length_range] at this
  omega
 ·refine List.pairwise_map.mpr (List.Pairwise.imp_of_mem (fun {p q} hp hq (hpq:p<q) z=>?_) List.pairwise_lt_range)
  rw[List.mem_range] at hq
  exact Ny hpq ∅ z
 ·obtain⟨r,hr,rfl⟩:=List.mem_map.mp hy
  rw[List.mem_range] at hr
  exact a r ∅
noncomputable def lp(m:Nat)(s:Nat×Nat):Nat->Nat×Nat
 |0=>s
 |n+1=>leap m (lp m s n).1 (lp m s n).2
theorem K5(m:Nat)(s:Nat×Nat):∀n,(lp m s n).2=s.2 / 32 ^ n
 |0=>by rw[Nat.pow_zero,Nat.div_one];rfl
 |n+1=>by
  show (lp m s n).2 / 32=_
  rw[K5 m s n,Nat.div_div_eq_div_mul,pow_succ]
theorem Ii(m:Nat)(s:Nat×Nat)(h:s.2<2 ^ 64):∀r,lp m s (13+r)=(itf (m+1) r (lp m s 13).1,0)
 |0=>by
  have:=K5 m s 13
  rw[Nat.div_eq_of_lt (lt_of_lt_of_le h ⋯)] at this
  exact Prod.ext rfl this
 |r+1=>by
  show leap m (lp m s (13+r)).1 (lp m s (13+r)).2=_
  rw[Ii m s h r]
  show ((itf (m+1) r (lp m s 13).1*5+1+0 / 32) % (m+1),0 / 32)=_
  rw[Nat.zero_div,Nat.add_zero]
  rfl
theorem AR{m k:Nat}(hm:m+1=2 ^ k){O:List Nat}(hc:O.length<=m)(s:Nat×Nat)(h:s.2<2 ^ 64):∃L,L<=13+O.length/\(lp m s L).1 ∉ O:=by
 obtain⟨r,h1,h2⟩:=JN (k:=k) (O:=O) (lp m s 13).1 ∅
 refine⟨13+r,∅,?_⟩
 rw[Ii m s h,hm]
 exact h2
theorem HH(m i p:Nat):(leap m i p).1<=m:=by
 have:(i*5+1+p / 32) % (m+1)<m+1:=Nat.mod_lt _ (Nat.succ_pos m)
 show (i*5+1+p / 32) % (m+1)<=m
 omega
theorem IJ(h:Int):bits h<2 ^ 64:=by
 unfold bits
 have:=Int.emod_lt_of_pos h (show (0:Int)<2 ^ 64 by decide)
 have:=Int.emod_nonneg h (show (2 ^ 64:Int)≠0 by decide)
 omega
noncomputable def adv(m:Nat)(p:Probe):Probe:=
 if p.more>0 then {p with j:=p.j+1,more:=p.more-1} else
 {p with j:=(leap m p.i p.perturb).1,more:=runEnd m (leap m p.i p.perturb).1-(leap m p.i p.perturb).1,i:=(leap m p.i p.perturb).1,perturb:=(leap m p.i p.perturb).2}
noncomputable def st(m:Nat)(s:Nat×Nat):Probe:={j:=s.1,more:=runEnd m s.1-s.1,i:=s.1,perturb:=s.2,dummy:=none}
noncomputable def sth(m:Nat)(h:Int):Probe:=st m (bits h % (m+1),bits h)
inductive Way(m:Nat)(O:Nat->Prop):Probe->Nat->Nat->Prop
 |here {p:Probe}:p.dummy=none->¬ O p.j->Way m O p 0 p.j
 |step {p:Probe} {n e:Nat}:p.dummy=none->O p.j->Way m O (adv m p) n e->Way m O p (n+1) e
inductive On(m:Nat)(O:Nat->Prop):Probe->Nat->Prop
 |here {p:Probe}:On m O p p.j
 |step {p:Probe} {j:Nat}:O p.j->On m O (adv m p) j->On m O p j
theorem On.mono{m:Nat}{O O':Nat->Prop}(s:∀j,O j->O' j){p:Probe}{j:Nat}(h:On m O p j):On m O' p j:=by
 induction h with
 |here=>exact .here
 |step a _ ih=>exact .step (s _ a) ih
theorem Way.on{m:Nat}{O:Nat->Prop}{p:Probe}{n e:Nat}(h:Way m O p n e):On m O p e/\¬ O e:=by
 induction h with
 |here _ a=>exact⟨.here,a⟩
 |step _ a _ ih=>exact⟨.step a ih.1,ih.2⟩
theorem Pp(m i:Nat):runEnd m i-i<=9:=by unfold runEnd;split<;>omega
theorem Gq{m i:Nat}(h:i<=m):runEnd m i<=m:=by unfold runEnd;split<;>omega
theorem GK(m i:Nat):i<=runEnd m i:=by unfold runEnd;split<;>omega
theorem Way.le{m:Nat}{O:Nat->Prop}{p:Probe}{n e:Nat}(h:Way m O p n e):p.j+p.more<=m->e<=m:=by
 induction h with
 |here _ _=>omega
 |@step p n e _ a _ ih=>
  intro hp
  refine ih ?_
  unfold adv
  split
  ·show p.j+1+(p.more-1)<=m;omega
  ·show (leap m p.i p.perturb).1+(runEnd m (leap m p.i p.perturb).1-(leap m p.i p.perturb).1)<=m
   have h1:=HH m p.i p.perturb
   have:=Gq h1
   omega
theorem Hx{m:Nat}{O:Nat->Prop}{i pt n1 e1:Nat}(w:Way m O (st m (leap m i pt)) n1 e1):∀(more j:Nat),∃n e,Way m O {j:=j,more:=more,i:=i,perturb:=pt,dummy:=none} n e/\n<=more+1+n1
 |0,j=>by
  by_cases h:O j
  ·exact⟨n1+1,e1,.step rfl h w,∅⟩
  ·exact⟨0,j,.here rfl h,∅⟩
 |more+1,j=>by
  by_cases h:O j
  ·obtain⟨n,e,w1,hn⟩:=Hx w more (j+1)
   exact⟨n+1,e,.step rfl h w1,∅⟩
  ·exact⟨0,j,.here rfl h,∅⟩
theorem LY{m:Nat}{O:Nat->Prop}{s:Nat×Nat}{L:Nat}(hL:¬ O (lp m s L).1):∀d,d<=L->∃n e,Way m O (st m (lp m s (L-d))) n e/\n<=10*d
 |0,_=>⟨0,_,.here rfl hL,∅⟩
 |d+1,hd=>by
  obtain⟨n,e,w,hn⟩:=LY hL d ∅
  have e1:L-d=(L-(d+1))+1:=by omega
  rw[e1] at w
  obtain⟨n',e',w',hn'⟩:=Hx (i:=(lp m s (L-(d+1))).1) (pt:=(lp m s (L-(d+1))).2) w (runEnd m (lp m s (L-(d+1))).1-(lp m s (L-(d+1))).1) (lp m s (L-(d+1))).1
  have:=Pp m (lp m s (L-(d+1))).1
  exact⟨n',e',w',∅⟩
theorem KJ{m k:Nat}(hm:m+1=2 ^ k){O:List Nat}(hc:O.length<=m)(h:Int):∃n e,Way m (·∈O) (sth m h) n e/\n<=10*(13+O.length)/\e<=m:=by
 obtain⟨L,h1,h2⟩:=AR hm hc (bits h % (m+1),bits h) (IJ h)
 obtain⟨n,e,w,hn⟩:=LY (O:=(·∈O)) h2 L (le_refl _)
 rw[Nat.sub_self] at w
 refine⟨n,e,w,∅,w.le ?_⟩
 have:=Gq (m:=m) (i:=bits h % (m+1)) (le_of_lt_succ (Nat.mod_lt _ (Nat.succ_pos m)))
 have:=GK m (bits h % (m+1))
 show bits h % (m+1)+(runEnd m (bits h % (m+1))-bits h % (m+1))<=m
 omega
theorem xq{A B:List Nat}{j:Nat}(hA:∀a∈A,a<j)(hB:∀b∈B,j<=b):∀fuel lo hi,lo<=A.length->A.length<=hi->hi<=(A++B).length->hi-lo<=fuel->below.go (A++B).toArray j fuel lo hi=A.length
 |0,lo,hi,h1,h2,_,h4=>by show lo=_;omega
 |fuel+1,lo,hi,h1,h2,h3,h4=>by
  rw[below.go]
  by_cases c:lo<hi
  ·rw[if_pos c]
   have hmid:(lo+hi) / 2<(A++B).length:=by omega
   have hg:(A++B).toArray.getD ((lo+hi) / 2) j=(A++B)[(lo+hi) / 2]:=by rw[Array.getD];exact dif_pos (by rw[size_toArray];exact hmid)
   simp only[hg]
   by_cases d:(lo+hi) / 2<A.length
   ·have:(A++B)[(lo+hi) / 2]=A[(lo+hi) / 2]:=List.getElem_append_left d
    rw[this,if_pos (hA _ (getElem_mem d))]
    exact xq hA hB fuel _ _ ∅ h2 h3 ∅
   ·have:(A++B)[(lo+hi) / 2]=B[(lo+hi) / 2-A.length]'(by rw[length_append] at hmid;omega):=List.getElem_append_right ∅
    rw[this,if_neg (Nat.not_lt.mpr (hB _ (getElem_mem _)))]
    exact xq hA hB fuel _ _ h1 ∅ ∅ ∅
  ·rw[if_neg c]
   omega
theorem KH{A B:List Nat}{j:Nat}(hA:∀a∈A,a<j)(hB:∀b∈B,j<=b):below (A++B).toArray j=A.length:=by
 unfold below
 refine xq hA hB _ _ _ (zero_le _) ?_ ?_ ?_
 ·rw[size_toArray,length_append];omega
 ·rw[size_toArray];exact le_refl _
 ·omega
theorem Bh{α:Type}(A B:List α)(x:α):insertAt (A++B).toArray A.length x=(A++x::B).toArray:=by
 unfold insertAt
 apply Array.ext'
 simp
end ST
namespace ST
open PySem PySem.SetTable
theorem On.inv{m:Nat}{O:Nat->Prop}{p:Probe}{j:Nat}(h:On m O p j):j=p.j\/(O p.j/\On m O (adv m p) j):=by
 cases h with
 |here=>exact .inl rfl
 |step a b=>exact .inr ⟨a,b⟩
section
variable {β:Type}
noncomputable abbrev Ln(β:Type):=List (Nat×Int×β)
noncomputable def Occ(L:Ln β)(j:Nat):Prop:=j∈L.map (·.1)
structure Tab(t:SetTable)(L:Ln β):Prop where
 place:t.place=(L.map (·.1)).toArray
 ris:L.Pairwise fun a b=>a.1<b.1
 le:∀x∈L,x.1<=t.mask
 dum:t.dummies = #[]
 two:∃k,t.mask+1=2 ^ k/\3<=k
 on:∀x∈L,On t.mask (Occ L) (sth t.mask x.2.1) x.1
theorem Hu(j:Nat):has #[] j=false:=by
 have:below #[] j=0:=rfl
 unfold has
 rw[this]
 rfl
theorem DR{L:Ln β}(r:L.Pairwise fun a b=>a.1<b.1)(j:Nat):∃A B:Ln β,L=A++B/\(∀a∈A,a.1<j)/\∀b∈B,j<=b.1:=by
 induction L with
 |nil=>exact⟨[],[],rfl,fun _ h=>by simp at h,fun _ h=>by simp at h⟩
 |cons x L ih=>
  rw[List.pairwise_cons] at r
  by_cases h:x.1<j
  ·obtain⟨A,B,rfl,h1,h2⟩:=ih r.2
   refine⟨x::A,B,rfl,fun a ha=>?_,h2⟩
   rcases List.mem_cons.mp ha with rfl|ha
   ·exact h
   ·exact h1 a ha
  ·refine⟨[],x::L,rfl,fun _ h=>by simp at h,fun b hb=>?_⟩
   rcases List.mem_cons.mp hb with rfl|hb
   ·omega
   ·have:=r.1 b hb;omega
theorem Tab.below{t:SetTable}{A B:Ln β}(T:Tab t (A++B)){j:Nat}(h1:∀a∈A,a.1<j)(h2:∀b∈B,j<=b.1):SetTable.below t.place j=A.length:=by
 rw[T.place,map_append]
 rw[KH (j:=j) (fun a ha=>by obtain⟨x,hx,rfl⟩:=List.mem_map.mp ha;exact h1 x hx) (fun b hb=>by obtain⟨x,hx,rfl⟩:=List.mem_map.mp hb;exact h2 x hx),length_map]
theorem Tab.JH{t:SetTable}{L:Ln β}(T:Tab t L){j:Nat}(h:¬ Occ L j):t.slot j = .empty:=by
 obtain⟨A,B,rfl,h1,h2⟩:=DR T.ris j
 unfold slot
 rw[T.below h1 h2,T.dum,Hu]
 have:(t.place[A.length]?==some j)=false:=by
  rw[T.place]
  cases B with
  |nil=>simp
  |cons b B=>
   simp only[map_append,map_cons,List.getElem?_toArray]
   rw[getElem?_append_right (by simp),length_map,Nat.sub_self]
   have:b.1≠j:=fun z=>h (by unfold Occ;rw[<- z];simp)
   simp[this]
 rw[if_neg (by rw[this];decide)]
 rfl
theorem Iu{A B:Ln β}{x:Nat×Int×β}(r:(A++x::B).Pairwise fun a b=>a.1<b.1):(∀a∈A,a.1<x.1)/\∀b∈B,x.1<b.1:=by
 rw[List.pairwise_append,List.pairwise_cons] at r
 exact⟨fun a ha=>r.2.2 a ha x (mem_cons_self ..),fun b hb=>r.2.1.1 b hb⟩
theorem Tab.IP{t:SetTable}{A B:Ln β}{x:Nat×Int×β}(T:Tab t (A++x::B)):t.slot x.1 = .live A.length:=by
 obtain⟨h1,h2⟩:=Iu T.ris
 unfold slot
 rw[T.below h1 (fun b hb=>by rcases List.mem_cons.mp hb with rfl|hb;exact le_refl _;exact Nat.le_of_lt (h2 b hb))]
 have:(t.place[A.length]?==some x.1)=true:=by
  rw[T.place]
  simp
 rw[if_pos this]
theorem Tab.M7{t:SetTable}{L:Ln β}(T:Tab t L){j:Nat}(h:Occ L j):∃i x,t.slot j = .live i/\L[i]? = some (j,x):=by
 obtain⟨⟨j',x⟩,hx,rfl⟩:=List.mem_map.mp h
 obtain⟨A,B,rfl⟩:=List.append_of_mem hx
 exact⟨A.length,x,T.IP,by simp⟩
theorem Tab.uniq{t:SetTable}{L:Ln β}(T:Tab t L){j:Nat}{x y:Int×β}(h1:(j,x)∈L)(h2:(j,y)∈L):x=y:=by
 obtain⟨A,B,rfl⟩:=List.append_of_mem h1
 obtain⟨a1,a2⟩:=Iu T.ris
 rcases List.mem_append.mp h2 with h|h
 ·exact absurd (a1 _ h) (lt_irrefl _)
 ·rcases List.mem_cons.mp h with h|h
  ·cases h;rfl
  ·exact absurd (a2 _ h) (lt_irrefl _)
noncomputable def hashOf(L:Ln β)(i:Nat):Int:=(L[i]?.map (·.2.1)).getD 0
theorem LP{t:SetTable}{L:Ln β}(T:Tab t L){hashAt:Nat->Int}(hh:∀i,i<L.length->hashAt i=hashOf L i)(h:Int) :
  ∀(n:Nat) (p:Probe) (e fuel:Nat),Way t.mask (Occ L) p n e->n<fuel ->
   (probe.go t hashAt h fuel p=some (.empty e none)/\∀x∈L,x.2.1=h->¬ On t.mask (Occ L) p x.1) \/
   (∃i x next n',probe.go t hashAt h fuel p=some (.candidate x.1 i next)/\L[i]? = some x/\t.slot x.1 = .live i/\x.2.1=h/\n'<n/\Way t.mask (Occ L) next n' e /\
    ∀y∈L,y.2.1=h->On t.mask (Occ L) p y.1->y=x\/On t.mask (Occ L) next y.1):=by
 intro n
 induction n with
 |zero=>
  intro p e fuel w hf
  cases w with
  |here hd ho=>
   obtain⟨f,rfl⟩:∃f,fuel=f+1:=⟨fuel-1,∅⟩
   left
   refine⟨?_,fun x hx _ hon=>?_⟩
   ·rw[probe.go,T.JH ho,hd]
   ·rcases hon.inv with z|⟨a,_⟩
    ·exact ho (List.mem_map.mpr ⟨x,hx,z⟩)
    ·exact ho a
 |succ n ih=>
  intro p e fuel w hf
  obtain⟨f,rfl⟩:∃f,fuel=f+1:=⟨fuel-1,∅⟩
  cases w with
  |step hd ho w=>
   obtain⟨i,x,h1,h2⟩:=T.M7 ho
   have hlt:i<L.length:=by
    rcases lt_or_ge i L.length with z|z
    ·exact z
    ·rw[getElem?_eq_none z] at h2;cases h2
   have eh:hashAt i=x.1:=by rw[hh i hlt,hashOf,h2];rfl
   by_cases c:x.1=h
   ·right
    refine⟨i,(p.j,x),adv t.mask p,n,?_,h2,h1,c,Nat.lt_succ_self n,w,fun y hy _ hon=>?_⟩
    ·rw[probe.go,h1]
     show (if (hashAt i==h)=true then _ else _)=_
     rw[if_pos (by rw[eh,c];exact beq_self_eq_true h)]
     rfl
    ·rcases hon.inv with z|⟨_,b⟩
     ·left
      obtain⟨y1,y2⟩:=y
      cases z
      rw[T.uniq hy (mem_of_getElem? h2)]
     ·exact .inr b
   ·have e1:probe.go t hashAt h (f+1) p=probe.go t hashAt h f (adv t.mask p):=by
     rw[probe.go,h1]
     show (if (hashAt i==h)=true then _ else _)=_
     rw[if_neg (by rw[eh];simpa using c)]
     rfl
    have on_next:∀y∈L,y.2.1=h->On t.mask (Occ L) p y.1->On t.mask (Occ L) (adv t.mask p) y.1:=fun y hy ey hon=>by
     rcases hon.inv with z|⟨_,b⟩
     ·obtain⟨y1,y2⟩:=y
      cases z
      rw[T.uniq hy (mem_of_getElem? h2)] at ey
      exact absurd ey c
     ·exact b
    rw[e1]
    rcases ih (adv t.mask p) e f w ∅ with ⟨a,b⟩|⟨i',x',next,n',a1,a2,a3,a4,a5,a6,a7⟩
    ·exact .inl ⟨a,fun y hy ey hon=>b y hy ey (on_next y hy ey hon)⟩
    ·exact .inr ⟨i',x',next,n',a1,a2,a3,a4,∅,a6,fun y hy ey hon=>a7 y hy ey (on_next y hy ey hon)⟩
theorem Tab.fill{t:SetTable}{L:Ln β}(T:Tab t L):t.fill=L.length:=by
 unfold SetTable.fill
 rw[T.place,T.dum,size_toArray,length_map]
 rfl
theorem Tab.odd{t:SetTable}{L:Ln β}(T:Tab t L):t.mask % 2=1:=by
 obtain⟨k,h1,h2⟩:=T.two
 obtain⟨q,rfl⟩:∃q,k=q+1:=⟨k-1,∅⟩
 rw[pow_succ] at h1
 omega
theorem Tab.way{t:SetTable}{L:Ln β}(T:Tab t L)(hc:L.length<=t.mask)(h:Int):∃n e,Way t.mask (Occ L) (sth t.mask h) n e/\n<=10*(13+L.length)/\e<=t.mask:=by
 obtain⟨k,h1,h2⟩:=T.two
 have:=KJ h1 (O:=L.map (·.1)) (by rw[length_map];exact hc) h
 rw[length_map] at this
 exact this
theorem Tab.put{t:SetTable}{L:Ln β}(T:Tab t L){n e:Nat}{h:Int}{y:β}(w:Way t.mask (Occ L) (sth t.mask h) n e)(he:e<=t.mask) :
  ∃A B,L=A++B/\(t.put e).2=A.length/\Tab (t.put e).1 (A++(e,h,y)::B):=by
 obtain⟨A,B,rfl,h1,h2⟩:=DR T.ris e
 have hb:=T.below h1 h2
 obtain⟨won,wno⟩:=w.on
 have h2':∀b∈B,e<b.1:=fun b hb=>by
  have:=h2 b hb
  have:b.1≠e:=fun z=>wno (List.mem_map.mpr ⟨b,mem_append_right _ hb,z⟩)
  omega
 have hp:(t.put e).1={t with place:=insertAt t.place A.length e}:=by
  unfold SetTable.put
  rw[hb]
  show {t with place:=insertAt t.place A.length e,dummies:=if has t.dummies e=true then eraseAt t.dummies (SetTable.below t.dummies e) else t.dummies} = _
  rw[T.dum,Hu]
  rfl
 have oc:∀j,Occ (A++B) j->Occ (A++(e,h,y)::B) j:=fun j hj=>by
  unfold Occ at hj ⊢
  rw[map_append,mem_append] at hj
  rw[map_append,mem_append,map_cons,mem_cons]
  rcases hj with z|z
  ·exact .inl z
  ·exact .inr (.inr z)
 refine⟨A,B,rfl,hb,?_⟩
 rw[hp]
 exact {
  place:=by
   show insertAt t.place A.length e=_
   rw[T.place,map_append]
   have:=Bh (A.map (·.1)) (B.map (·.1)) e
   rw[length_map] at this
   rw[this,map_append]
   rfl
  ris:=by
   have r:=T.ris
   rw[List.pairwise_append] at r ⊢
   refine⟨r.1,List.pairwise_cons.mpr ⟨fun b hb=>h2' b hb,r.2.1⟩,fun a ha b hb=>?_⟩
   rcases List.mem_cons.mp hb with rfl|hb
   ·exact h1 a ha
   ·exact r.2.2 a ha b hb
  le:=fun x hx=>by
   rcases List.mem_append.mp hx with z|z
   ·exact T.le x (mem_append_left _ z)
   ·rcases List.mem_cons.mp z with rfl|z
    ·exact he
    ·exact T.le x (mem_append_right _ z)
  dum:=T.dum
  two:=T.two
  on:=fun x hx=>by
   rcases List.mem_append.mp hx with z|z
   ·exact (T.on x (mem_append_left _ z)).mono oc
   ·rcases List.mem_cons.mp z with rfl|z
    ·exact won.mono oc
    ·exact (T.on x (mem_append_right _ z)).mono oc}
end
end ST
namespace ST
open PySem PySem.SetTable
theorem Ko{m:Nat}{O:Nat->Prop}{i pt:Nat}:∀(k more j:Nat),k<=more->(∀q,q<k->O (j+q))->On m O {j:=j,more:=more,i:=i,perturb:=pt,dummy:=none} (j+k)
 |0,more,j,_,_=>.here
 |k+1,more,j,hk,ho=>by
  have hm:more>0:=by omega
  refine .step (ho 0 ∅) ?_
  have:adv m {j:=j,more:=more,i:=i,perturb:=pt,dummy:=none} = {j:=j+1,more:=more-1,i:=i,perturb:=pt,dummy:=none}:=by
   unfold adv;exact if_pos hm
  rw[this]
  have e:j+(k+1)=j+1+k:=by omega
  rw[e]
  exact Ko k (more-1) (j+1) ∅ fun q hq=>by
   have:=ho (q+1) ∅
   have e:j+1+q=j+(q+1):=by omega
   rw[e];exact this
theorem xp{m:Nat}{O:Nat->Prop}{i pt e:Nat}(w:On m O (st m (leap m i pt)) e):∀(more j:Nat),(∀q,q<=more->O (j+q))->On m O {j:=j,more:=more,i:=i,perturb:=pt,dummy:=none} e
 |0,j,ho=>.step (ho 0 (le_refl _)) w
 |more+1,j,ho=>by
  refine .step (ho 0 ∅) ?_
  exact xp w more (j+1) fun q hq=>by
   have:=ho (q+1) ∅
   have e:j+1+q=j+(q+1):=by omega
   rw[e];exact this
theorem N5{m:Nat}{s:Nat×Nat}(h:s.1<=m):∀n,(lp m s n).1<=m
 |0=>h
 |n+1=>HH m _ _
theorem MM{m:Nat}{owner:Array (Option Nat)}{js:List Nat}(ho:∀j,j<=m->((owner.getD j (some 0)).isNone=true↔j ∉ js)){s:Nat×Nat}(hs:s.1<=m){L:Nat}(hL:(lp m s L).1 ∉ js) :
  ∀(d fuel:Nat),d<fuel->d<=L->∃e,layClean.free m owner fuel (lp m s (L-d)).1 (lp m s (L-d)).2=some e/\On m (·∈js) (st m (lp m s (L-d))) e/\e ∉ js/\e<=m:=by
 intro d
 induction d with
 |zero=>
  intro fuel hf hd
  obtain⟨f,rfl⟩:∃f,fuel=f+1:=⟨fuel-1,∅⟩
  have hi:=N5 hs L
  rw[layClean.free]
  have hr:=GK m (lp m s L).1
  have e1:(List.range (runEnd m (lp m s L).1+1-(lp m s L).1)).find? (fun k=>(owner.getD ((lp m s L).1+k) (some 0)).isNone)=some 0:=by
   rw[List.find?_range_eq_some]
   exact⟨(ho _ hi).mpr hL,List.mem_range.mpr ∅,fun j hj=>absurd hj (not_lt_zero j)⟩
  rw[Nat.sub_zero,e1]
  exact⟨_,rfl,.here,hL,hi⟩
 |succ d ih=>
  intro fuel hf hd
  obtain⟨f,rfl⟩:∃f,fuel=f+1:=⟨fuel-1,∅⟩
  have hi:=N5 hs (L-(d+1))
  obtain⟨e,a1,a2,a3,a4⟩:=ih f ∅ ∅
  have e1:L-d=(L-(d+1))+1:=by omega
  rw[e1] at a1 a2
  have hr:=GK m (lp m s (L-(d+1))).1
  have hin:=Gq hi
  rw[layClean.free]
  cases q:(List.range (runEnd m (lp m s (L-(d+1))).1+1-(lp m s (L-(d+1))).1)).find? (fun k=>(owner.getD ((lp m s (L-(d+1))).1+k) (some 0)).isNone) with
  |some k=>
   rw[List.find?_range_eq_some] at q
   obtain⟨q1,q2,q3⟩:=q
   rw[List.mem_range] at q2
   refine⟨_,rfl,Ko k _ _ ∅ fun z hz=>?_,(ho _ ∅).mp q1,∅⟩
   have h1:=q3 z hz
   have h2:=ho ((lp m s (L-(d+1))).1+z) ∅
   rw[Bool.not_eq_true'] at h1
   exact Classical.byContradiction fun w=>by rw[h2.mpr w] at h1;cases h1
  |none=>
   rw[List.find?_eq_none] at q
   refine⟨e,a1,xp a2 _ _ fun z hz=>?_,a3,a4⟩
   have h1:=q z (List.mem_range.mpr ∅)
   have h2:=ho ((lp m s (L-(d+1))).1+z) ∅
   exact Classical.byContradiction fun w=>h1 (h2.mpr w)
structure Own(m:Nat)(owner:Array (Option Nat))(js:List Nat)(hs:List Int):Prop where
 size:owner.size=m+1
 len:js.length=hs.length
 nd:js.Nodup
 le:∀j∈js,j<=m
 is:∀j i,owner.getD j none=some i↔js[i]? = some j
 on:∀(i j:Nat) (h:Int),js[i]? = some j->hs[i]? = some h->On m (·∈js) (sth m h) j
theorem Own.none{m:Nat}{owner:Array (Option Nat)}{js:List Nat}{hs:List Int}(w:Own m owner js hs){j:Nat}(hj:j<=m):(owner.getD j (some 0)).isNone=true↔j ∉ js:=by
 have hj':j<owner.size:=by rw[w.size];omega
 have e:owner.getD j (some 0)=owner.getD j .none:=by unfold Array.getD;rw[dif_pos hj',dif_pos hj']
 rw[e]
 constructor
 ·intro h z
  obtain⟨i,hi,rfl⟩:=List.getElem_of_mem z
  have:=(w.is js[i] i).mpr (getElem?_eq_getElem hi)
  rw[this] at h
  cases h
 ·intro h
  cases q:owner.getD j .none with
  |none=>rfl
  |some i=>exact absurd (mem_of_getElem? ((w.is j i).mp q)) h
noncomputable def fld(m:Nat)(acc:Option (Array (Option Nat)×Nat))(h:Int):Option (Array (Option Nat)×Nat):=do
  let (owner,k) <- acc
  let j <- layClean.free m owner (turns m) (bits h % (m+1)) (bits h)
  pure (owner.setIfInBounds j (some k),k+1)
theorem LQ{m k:Nat}(hm:m+1=2 ^ k){owner:Array (Option Nat)}{js:List Nat}{hs:List Int}(w:Own m owner js hs)(hc:js.length<m)(h:Int) :
  ∃e,fld m (some (owner,js.length)) h=some (owner.setIfInBounds e (some js.length),js.length+1)/\Own m (owner.setIfInBounds e (some js.length)) (js++[e]) (hs++[h]):=by
 have hb:bits h % (m+1)<=m:=le_of_lt_succ (Nat.mod_lt _ (Nat.succ_pos m))
 obtain⟨L,h1,h2⟩:=AR hm (O:=js) ∅ (bits h % (m+1),bits h) (IJ h)
 obtain⟨e,a1,a2,a3,a4⟩:=MM (fun j hj=>w.none hj) (s:=(bits h % (m+1),bits h)) hb h2 L (turns m) (by unfold turns;omega) (le_refl _)
 rw[Nat.sub_self] at a1 a2
 have he:e<owner.size:=by rw[w.size];omega
 refine⟨e,?_,?_⟩
 ·unfold fld
  show (do let j <- layClean.free m owner (turns m) (bits h % (m+1)) (bits h);pure (owner.setIfInBounds j (some js.length),js.length+1))=_
  have a1':layClean.free m owner (turns m) (bits h % (m+1)) (bits h)=some e:=a1
  rw[a1']
  rfl
 ·have sub:∀j,j∈js->j∈js++[e]:=fun j hj=>mem_append_left _ hj
  have gd:∀j,(owner.setIfInBounds e (some js.length)).getD j none=if j=e then some js.length else owner.getD j none:=fun j=>by
   rw[Array.getD_eq_getD_getElem?,Array.getD_eq_getD_getElem?,Array.getElem?_setIfInBounds]
   by_cases c:e=j
   ·rw[if_pos c,if_pos c.symm,if_pos he];rfl
   ·rw[if_neg c,if_neg (fun z=>c z.symm)]
  exact {
   size:=by rw[Array.size_setIfInBounds];exact w.size
   len:=by rw[length_append,length_append,w.len];rfl
   nd:=by
    rw[List.nodup_append]
    refine⟨w.nd,List.pairwise_singleton _ _,fun a ha b hb z=>?_⟩
    rw[mem_singleton] at hb
    subst hb;subst z;exact a3 ha
   le:=fun j hj=>by
    rcases List.mem_append.mp hj with z|z
    ·exact w.le j z
    ·rw[mem_singleton] at z;omega
   is:=fun j i=>by
    rw[gd]
    by_cases c:j=e
    ·subst c
     rw[if_pos rfl]
     constructor
     ·intro z;cases z
      rw[getElem?_append_right (le_refl _),Nat.sub_self];rfl
     ·intro z
      rcases lt_or_ge i js.length with y|y
      ·rw[getElem?_append_left y] at z
       exact absurd (mem_of_getElem? z) a3
      ·rw[getElem?_append_right y] at z
       cases d:i-js.length with
       |zero=>congr 1;omega
       |succ n=>rw[d] at z;simp at z
    ·rw[if_neg c,w.is]
     rcases lt_or_ge i js.length with y|y
     ·rw[getElem?_append_left y]
     ·rw[getElem?_append_right y,getElem?_eq_none y]
      constructor
      ·intro z;cases z
      ·intro z
       cases d:i-js.length with
       |zero=>rw[d] at z;simp at z;exact absurd z.symm c
       |succ n=>rw[d] at z;simp at z
   on:=fun i j h' z1 z2=>by
    rcases lt_or_ge i js.length with y|y
    ·rw[getElem?_append_left y] at z1
     rw[getElem?_append_left (by rw[<- w.len];exact y)] at z2
     exact (w.on i j h' z1 z2).mono sub
    ·rw[getElem?_append_right y] at z1
     rw[getElem?_append_right (by rw[<- w.len];exact y),<- w.len] at z2
     cases d:i-js.length with
     |zero=>
      rw[d] at z1 z2
      simp at z1 z2
      subst z1;subst z2
      exact a2.mono sub
     |succ n=>rw[d] at z1;simp at z1}
theorem Ht{m k:Nat}(hm:m+1=2 ^ k):∀(rest:List Int) (owner:Array (Option Nat)) (js:List Nat) (hs:List Int),Own m owner js hs->js.length+rest.length<=m ->
  ∃owner' js',rest.foldl (fld m) (some (owner,js.length))=some (owner',js'.length)/\Own m owner' js' (hs++rest)
 |[],owner,js,hs,w,_=>⟨owner,js,rfl,by rw[append_nil];exact w⟩
 |h::rest,owner,js,hs,w,hc=>by
  rw[length_cons] at hc
  obtain⟨e,a1,a2⟩:=LQ hm w ∅ h
  obtain⟨owner',js',b1,b2⟩:=Ht hm rest _ _ _ a2 (by rw[length_append,List.length_singleton];omega)
  refine⟨owner',js',?_,by rw[append_assoc] at b2;exact b2⟩
  rw[List.foldl_cons,a1]
  rw[length_append,List.length_singleton] at b1
  exact b1
theorem IT(m:Nat):Own m (Array.replicate (m+1) none) [] [] where
 size:=Array.size_replicate
 len:=rfl
 nd:=List.Pairwise.nil
 le:=fun _ h=>by simp at h
 is:=fun j i=>by
  rw[Array.getD_eq_getD_getElem?,Array.getElem?_replicate]
  constructor
  ·intro z;split at z<;>cases z
  ·intro z;simp at z
 on:=fun i j h z _=>by simp at z
theorem ED{m k:Nat}(hm:m+1=2 ^ k)(hs:List Int)(hc:hs.length<=m):∃owner js,layClean m hs.toArray=some owner/\Own m owner js hs:=by
 obtain⟨owner,js,h1,h2⟩:=Ht hm hs _ _ _ (IT m) (by rw[length_nil,Nat.zero_add];exact hc)
 refine⟨owner,js,?_,h2⟩
 have h1':hs.foldl (fld m) (some (Array.replicate (m+1) none,0))=some (owner,js.length):=h1
 unfold layClean
 rw[List.foldl_toArray]
 show Option.map (·.1) (hs.foldl (fld m) (some (Array.replicate (m+1) none,0)))=_
 rw[h1']
 rfl
section
variable {β:Type}
theorem KG{D:List (Int×β)}:∀(l:List (Nat×Nat)),(∀q∈l,q.2<D.length)->(l.filterMap fun q=>(D[q.2]?).map fun x=>(q.1,x)).map (·.1)=l.map (·.1) /\
  (l.filterMap fun q=>(D[q.2]?).map fun x=>(q.1,x)).map (·.2)=(l.map (·.2)).filterMap (D[·]?)
 |[],_=>⟨rfl,rfl⟩
 |q::l,h=>by
  obtain⟨h1,h2⟩:=KG l fun q hq=>h q (mem_cons_of_mem _ hq)
  have hq:=h q (mem_cons_self ..)
  have e:D[q.2]? = some D[q.2]:=getElem?_eq_getElem hq
  constructor
  ·rw[List.filterMap_cons_some (b:=(q.1,D[q.2])) (by rw[e];rfl),map_cons,map_cons,h1]
  ·rw[List.filterMap_cons_some (b:=(q.1,D[q.2])) (by rw[e];rfl),map_cons,map_cons,h2,List.filterMap_cons_some e]
theorem M4{m k:Nat}(hm:m+1=2 ^ k)(hk:3<=k)(D:List (Int×β))(hc:D.length<=m)(fi mo:Nat)(led pl:Bool) :
  ∃(t:SetTable) (order:Array Nat) (L:Ln β),laid m fi mo led pl (D.toArray.map (·.1))=some (t,order)/\order.filterMap (D.toArray[·]?)=(L.map (·.2)).toArray/\Tab t L/\L.length=D.length/\(∀x,x∈L.map (·.2)↔x∈D)/\t.mask=m/\t.led=led/\t.plain=pl:=by
 obtain⟨owner,js,h1,w⟩:=ED hm (D.map (·.1)) (by rw[length_map];exact hc)
 have lj:js.length=D.length:=by rw[w.len,length_map]
 let live:=(List.range (m+1)).filterMap fun j=>(owner.getD j none).map (j,·)
 have mem_live:∀j i,(j,i)∈live↔js[i]? = some j:=fun j i=>by
  rw[List.mem_filterMap]
  constructor
  ·rintro ⟨a,_,e⟩
   cases q:owner.getD a none with
   |none=>rw[q] at e;cases e
   |some b=>rw[q] at e;cases e;exact (w.is _ _).mp q
  ·intro z
   refine⟨j,List.mem_range.mpr (Nat.lt_succ_of_le (w.le j (mem_of_getElem? z))),?_⟩
   rw[(w.is j i).mpr z]
   rfl
 have lt_live:∀q∈live,q.2<D.length:=fun q hq=>by
  have:=(mem_live q.1 q.2).mp hq
  rcases lt_or_ge q.2 js.length with z|z
  ·omega
  ·rw[getElem?_eq_none z] at this;cases this
 have ris_live:(live.map (·.1)).Pairwise (· < ·):=by
  refine List.pairwise_map.mpr (List.Pairwise.filterMap _ (fun a b hab x hx y hy=>?_) List.pairwise_lt_range)
  cases qa:owner.getD a none with
  |none=>rw[qa] at hx;cases hx
  |some i=>
   cases qb:owner.getD b none with
   |none=>rw[qb] at hy;cases hy
   |some i'=>rw[qa] at hx;rw[qb] at hy;cases hx;cases hy;exact hab
 have len_live:live.length=js.length:=by
  refine Nat.le_antisymm ?_ ?_
  ·have nd:(live.map fun q=>q.1).Nodup:=by
    unfold List.Nodup
    exact ris_live.imp fun {a b} (h:a<b)=>ne_of_lt h
   have:=pig _ js nd fun x hx=>by
    obtain⟨q,hq,rfl⟩:=List.mem_map.mp hx
    exact mem_of_getElem? ((mem_live q.1 q.2).mp hq)
   rw[length_map] at this
   exact this
  ·have:=pig js (live.map (·.1)) w.nd fun x hx=>by
    obtain⟨i,hi,rfl⟩:=List.getElem_of_mem hx
    exact List.mem_map.mpr ⟨(js[i],i),(mem_live _ _).mpr (getElem?_eq_getElem hi),rfl⟩
   rw[length_map] at this
   exact this
 let L:Ln β:=live.filterMap fun q=>(D[q.2]?).map fun x=>(q.1,x)
 obtain⟨f1,f2⟩:=KG (D:=D) live lt_live
 have f1:L.map (·.1)=live.map (·.1):=f1
 have f2:L.map (·.2)=(live.map (·.2)).filterMap (D[·]?):=f2
 have mem_L:∀j x,(j,x)∈L↔∃i,js[i]? = some j/\D[i]? = some x:=fun j x=>by
  rw[List.mem_filterMap]
  constructor
  ·rintro ⟨q,hq,e⟩
   cases z:D[q.2]? with
   |none=>rw[z] at e;cases e
   |some y=>rw[z] at e;cases e;exact⟨q.2,(mem_live _ _).mp hq,z⟩
  ·rintro ⟨i,h1,h2⟩
   exact⟨(j,i),(mem_live j i).mpr h1,by rw[h2];rfl⟩
 have occ:∀j,j∈js->Occ L j:=fun j hj=>by
  unfold Occ
  rw[f1]
  obtain⟨i,hi,rfl⟩:=List.getElem_of_mem hj
  exact List.mem_map.mpr ⟨(js[i],i),(mem_live _ _).mpr (getElem?_eq_getElem hi),rfl⟩
 refine⟨{mask:=m,place:=(live.map (·.1)).toArray,dummies:=#[],finger:=fi,led:=led,moves:=mo,plain:=pl},(live.map (·.2)).toArray,L,?_,?_,?_,?_,?_,rfl,rfl,rfl⟩
 ·unfold laid
  have e:(D.toArray.map (·.1))=(D.map (·.1)).toArray:=by simp
  rw[e,h1]
  rfl
 ·rw[f2]
  simp
 ·exact {
   place:=by rw[f1]
   ris:=by
    have:=ris_live
    rw[<- f1] at this
    exact List.pairwise_map.mp this
   le:=fun x hx=>by
    obtain⟨i,h1,_⟩:=(mem_L x.1 x.2).mp hx
    exact w.le _ (mem_of_getElem? h1)
   dum:=rfl
   two:=⟨k,hm,hk⟩
   on:=fun x hx=>by
    obtain⟨i,h1,h2⟩:=(mem_L x.1 x.2).mp hx
    exact (w.on i x.1 x.2.1 h1 (by rw[getElem?_map,h2];rfl)).mono occ}
 ·rw[<- lj,<- len_live,<- length_map (f:=(·.1)) (as:=L),f1,length_map]
 ·intro x
  rw[mem_map]
  constructor
  ·rintro ⟨⟨j,y⟩,hy,rfl⟩
   obtain⟨i,_,h2⟩:=(mem_L j y).mp hy
   exact mem_of_getElem? h2
  ·intro hx
   obtain⟨i,hi,rfl⟩:=List.getElem_of_mem hx
   have hij:i<js.length:=by omega
   exact⟨(js[i],D[i]),(mem_L _ _).mpr ⟨i,getElem?_eq_getElem hij,getElem?_eq_getElem hi⟩,rfl⟩
end
theorem HM(n:Nat):∀(fuel k:Nat),∃q,sizeAbove.go n fuel (2 ^ k)=2 ^ q/\k<=q/\(n<2 ^ (k+fuel)->n<2 ^ q)/\(2 ^ q=2 ^ k\/2 ^ q<=2*n)
 |0,k=>⟨k,rfl,le_refl _,fun h=>h,.inl rfl⟩
 |fuel+1,k=>by
  rw[sizeAbove.go]
  by_cases c:2 ^ k<=n
  ·rw[if_pos c]
   obtain⟨q,h1,h2,h3,h4⟩:=HM n fuel (k+1)
   rw[<- pow_succ]
   refine⟨q,h1,∅,fun h=>h3 (by rw[Nat.add_assoc,Nat.add_comm 1 fuel];exact h),.inr ?_⟩
   rcases h4 with h4|h4
   ·rw[h4,pow_succ];omega
   ·exact h4
  ·rw[if_neg c]
   exact⟨k,rfl,le_refl _,fun _=>by omega,.inl rfl⟩
theorem MS(n:Nat)(h:n<2 ^ 60):∃k,sizeAbove n=2 ^ k/\3<=k/\n<2 ^ k/\(2 ^ k=8\/2 ^ k<=2*n):=by
 obtain⟨q,h1,h2,h3,h4⟩:=HM n 64 3
 exact⟨q,h1,h2,h3 (lt_of_lt_of_le h (Nat.pow_le_pow_right ⋯ ⋯)),h4⟩
end ST
set_option maxHeartbeats 1000000
namespace ST
open PySem PySem.SetTable
section
variable {prog:Program}{w:World}{K:Type}[DecidableEq K]{knd:KeyKind prog w K}
variable {A:Around}{E:Value->Shared->Prop}{s:Shared}
theorem Ft{ks:List K}{a:Addr}{Q:Bool->Shared->Prop}(hk:IsTupleKey knd s.heap ks a)(h:Q false s):wpAny (model prog w) A (ofAClassStatement 8 (.ref a)) Q E s:=by
 have hT:=hk.typeIs
 obtain⟨o,items,n,ho,_,hd,hi⟩:=hk
 unfold ofAClassStatement
 refine wpAny_bind (wpAny_typeOf hT ?_)
 dsimp only
 rw[if_pos ⋯]
 refine wpAny_bind (wpAny_pure ?_)
 simp only[Bool.not_true,false_eq_true,if_false]
 refine wpAny_bind (wpAny_seqItems ho hd ?_)
 refine wpAny_bind ?_
 show wpAny _ _ (forIn items _ _) _ _ s
 rw[<- Array.forIn_toList]
 refine wpAny_forIn_list _ (fun rest r s'=>r.1=none/\s'=s/\∀v∈rest,carriedByValue v=true) _ ?_ ?_ _ _ ⟨rfl,rfl,hi.byValue⟩
 ·rintro v rest r s' ⟨hr,rfl,hall⟩
  have e:ofAClassStatement 7 v=pure false:=by
   have:=hall v mem_cons_self
   cases v with
   |ref a=>simp[carriedByValue] at this
   |_=>first|rfl|simp[ofAClassStatement]|(unfold ofAClassStatement;rfl)
  rw[e]
  refine wpAny_bind (wpAny_pure ?_)
  simp only[false_eq_true,if_false]
  exact wpAny_pure ⟨rfl,rfl,fun u hu'=>hall u (mem_cons_of_mem _ hu')⟩
 ·rintro ⟨r1,r2⟩ s' ⟨hr,rfl,_⟩
  simp only at hr
  subst hr
  exact wpAny_pure h
theorem Mz{k:List K}{q:Addr}(hk:IsTupleKey knd s.heap k q)(stored:List Value)(hs:∀v∈stored,∃k' q',v = .ref q'/\IsTupleKey knd s.heap k' q'){Q:Bool->Shared->Prop}(h:Q false s) :
  wpAny (model prog w) A (searchCouldBeSeen (.ref q) stored) Q E s:=by
 unfold searchCouldBeSeen
 refine wpAny_bind ?_
 refine wpAny_forIn_list _ (fun rest r s'=>r.1=none/\s'=s/\∀v∈rest,∃k' q',v = .ref q'/\IsTupleKey knd s.heap k' q') _ ?_ ?_ _ _ ⟨rfl,rfl,hs⟩
 ·rintro v rest r s' ⟨hr,rfl,hall⟩
  obtain⟨k',q',rfl,hk'⟩:=hall v mem_cons_self
  have up:∀v∈rest,∃k' q',v = .ref q'/\IsTupleKey knd s'.heap k' q':=fun u hu'=>hall u (mem_cons_of_mem _ hu')
  dsimp only
  split
  ·exact wpAny_pure ⟨rfl,rfl,up⟩
  ·refine wpAny_bind (wpAny_eqIsQuiet_tuple hk ?_)
   simp only[Bool.not_true,false_eq_true,if_false]
   refine wpAny_bind (wpAny_eqIsQuiet_tuple hk' ?_)
   simp only[Bool.not_true,false_eq_true,if_false]
   refine wpAny_bind (Ft hk ?_)
   simp only[false_eq_true,if_false]
   refine wpAny_bind (Ft hk' ?_)
   simp only[false_eq_true,if_false]
   exact wpAny_pure ⟨rfl,rfl,up⟩
 ·rintro ⟨r1,r2⟩ s' ⟨hr,rfl,_⟩
  simp only at hr
  subst hr
  exact wpAny_pure h
noncomputable def Ent(knd:KeyKind prog w K)(h:Heap)(x:Nat×Int×Value)(k:List K):Prop:=∃q,x.2.2 = .ref q/\IsTupleKey knd h k q/\x.2.1=tupleKeyHash knd k
theorem Ent.inj{h:Heap}{x:Nat×Int×Value}{k k':List K}(a:Ent knd h x k)(b:Ent knd h x k'):k=k':=by
 obtain⟨q,a1,a2,_⟩:=a
 obtain⟨q',b1,b2,_⟩:=b
 rw[a1] at b1;cases b1
 exact a2.inj b2
theorem fits_of{t:SetTable}{L:Ln Value}(T:Tab t L)(hc:L.length<=t.mask):t.fits (L.map (·.2)).toArray.size=true:=by
 unfold SetTable.fits
 rw[T.fill,T.place]
 simp[hc]
theorem Fb{a:Addr}{o:Obj}{L:Ln Value}{ep:Nat}{t:SetTable}(hA:A.units<cLine)(ho:s.heap.get? a=some o)(hd:o.data = .set (L.map (·.2)).toArray ep t)(T:Tab t L)(hc:L.length<=t.mask)
  (hL:∀x∈L,∃k,Ent knd s.heap x k) {k:List K} {q:Addr} (hk:IsTupleKey knd s.heap k q) {adding:Bool} {e:Nat} {Q:SetFound->Shared->Prop}
  (yes:(∃x∈L,Ent knd s.heap x k)->∀r,(adding=false->r.isSome=true)->Q (.there r) s) (no:(∀x∈L,¬ Ent knd s.heap x k)->Q (.free e false) s) :
  ∀(n fuel:Nat) (stand:Option Probe),Way t.mask (Occ L) (stand.getD (t.probeStart (tupleKeyHash knd k))) n e->n<fuel->n<10*turns t.mask ->
   (∀y∈L,Ent knd s.heap y k->On t.mask (Occ L) (stand.getD (t.probeStart (tupleKeyHash knd k))) y.1) ->
   wpAny (model prog w) A (setSearchFrom a (.ref q) (tupleKeyHash knd k) adding fuel stand) Q E s:=by
 intro n
 induction n using Nat.strongRecOn with
 |_ n ih=>
  intro fuel stand wy hf hf2 hon
  obtain⟨f,rfl⟩:∃f,fuel=f+1:=⟨fuel-1,∅⟩
  have hfit:=fits_of T hc
  unfold setSearchFrom
  refine wpAny_bind (wpAny_setState_of ho hd hfit ?_)
  dsimp only
  have hgw:t.gaveWay=false:=by
   unfold SetTable.gaveWay
   rw[T.odd]
   rfl
  rw[hgw]
  simp only[false_eq_true,if_false]
  have hp:=LP T (hashAt:=fun i=>(((L.map (·.2)).toArray)[i]?.map (·.1)).getD 0) (fun i hi=>by
   unfold hashOf
   simp
   rfl) (tupleKeyHash knd k) n _ e (10*turns t.mask) wy hf2
  rcases hp with ⟨g1,g2⟩|⟨i,x,next,n',g1,g2,g3,g4,g5,g6,g7⟩
  ·refine (show wpAny (model prog w) A (match t.probe (fun i=>(((L.map (·.2)).toArray)[i]?.map (·.1)).getD 0) (tupleKeyHash knd k) (stand.getD (t.probeStart (tupleKeyHash knd k))) with|some met=>_|_=>_) Q E s from ?_)
   unfold probe
   rw[g1]
   refine wpAny_pure (no fun x hx z=>?_)
   obtain⟨_,_,_,z3⟩:=id z
   exact g2 x hx z3 (hon x hx z)
  ·refine (show wpAny (model prog w) A (match t.probe (fun i=>(((L.map (·.2)).toArray)[i]?.map (·.1)).getD 0) (tupleKeyHash knd k) (stand.getD (t.probeStart (tupleKeyHash knd k))) with|some met=>_|_=>_) Q E s from ?_)
   unfold probe
   rw[g1]
   dsimp only
   obtain⟨k',hk'⟩:=hL x (mem_of_getElem? g2)
   obtain⟨q',e1,e2,e3⟩:=id hk'
   have hes:(L.map (·.2)).toArray[i]? = some (x.2.1,.ref q'):=by
    rw[List.getElem?_toArray,getElem?_map,g2,<- e1]
    rfl
   have go:wpAny (model prog w) A (do
     let some (_,y):=((L.map (·.2)).toArray)[i]?|unsupported "internal:set-entry"
     let equal <- holding [y] (eqBool y (.ref q))
     let (es',_,t') <- setState a
     if adding&&equal then return .there none
     let some same:=t'.sameMemory t.moves t.mask|unsupported "set.changed-during-lookup:is-the-new-block-at-the-old-address"
     let still <- match (if same then t'.slot x.1 else .empty) with
      |.live i'=>match es'[i']? with
       |some (_,y')=>do pure (if <- isSame y' y then some i' else none)
       |none=>pure none
      |_=>pure none
     match still with
     |none=>rule "set.search.anew";setSearchFrom a (.ref q) (tupleKeyHash knd k) adding f none
     |some i'=>if equal then return .there (some i') else setSearchFrom a (.ref q) (tupleKeyHash knd k) adding f (some next)) Q E s:=by
    rw[hes]
    dsimp only
    refine wpAny_bind (wpAny_holding (wpAny_eqBool_tuple hA e2 hk ?_))
    refine wpAny_bind (wpAny_setState_of ho hd hfit ?_)
    dsimp only
    have sm:t.sameMemory t.moves t.mask=some true:=by
     unfold sameMemory
     rw[if_pos (beq_self_eq_true _)]
    by_cases c:k'=k
    ·subst c
     have hex:∃x∈L,Ent knd s.heap x k':=⟨x,mem_of_getElem? g2,hk'⟩
     rw[decide_eq_true rfl]
     cases adding with
     |true=>exact wpAny_pure (yes hex none fun z=>nomatch z)
     |false=>
      simp only[Bool.false_and,false_eq_true,if_false]
      rw[sm]
      dsimp only
      rw[if_pos rfl,g3]
      dsimp only
      rw[hes]
      dsimp only
      refine wpAny_bind (wpAny_isSame_ref_self (wpAny_bind (wpAny_pure ?_)))
      rw[if_pos rfl]
      dsimp only
      rw[if_pos trivial]
      exact wpAny_pure (yes hex _ fun _=>rfl)
    ·rw[decide_eq_false c]
     simp only[Bool.and_false,false_eq_true,if_false]
     rw[sm]
     dsimp only
     rw[if_pos rfl,g3]
     dsimp only
     rw[hes]
     dsimp only
     refine wpAny_bind (wpAny_isSame_ref_self (wpAny_bind (wpAny_pure ?_)))
     rw[if_pos rfl]
     dsimp only
     refine ih n' g5 f (some next) g6 ∅ ∅ fun y hy hyk=>?_
     obtain⟨_,_,_,z3⟩:=id hyk
     rcases g7 y hy z3 (hon y hy hyk) with z|z
     ·subst z
      exact absurd (hk'.inj hyk) c
     ·exact z
   cases hl:t.led with
   |true=>
    simp only[Bool.not_true,false_eq_true,if_false]
    exact go
   |false=>
    simp only[Bool.not_false,if_true]
    refine wpAny_bind (Mz hk _ (fun v hv=>?_) ?_)
    ·obtain⟨y,hy,rfl⟩:=List.mem_map.mp hv
     have hy1:y∈L.map (·.2):=by
      have:=Array.mem_toList_iff.mp hy
      rw[Array.mem_filter] at this
      simpa using this.1
     obtain⟨x',hx',rfl⟩:=List.mem_map.mp hy1
     obtain⟨k'',q'',b1,b2,_⟩:=hL x' hx'
     exact⟨k'',q'',b1,b2⟩
    ·simp only[false_eq_true,if_false]
     exact go
end
end ST
namespace ST
open PySem PySem.SetTable
noncomputable def E8(h:Heap)(a:Addr)(L:Ln Value):Prop:=∃o ep t,h.get? a=some o/\o.ExactSet/\o.data = .set (L.map (·.2)).toArray ep t/\Tab t L/\L.length*5<t.mask*3
section
variable {prog:Program}{w:World}{K:Type}[DecidableEq K]{knd:KeyKind prog w K}
variable {A:Around}{E:Value->Shared->Prop}{s:Shared}
theorem Be{a:Addr}{o:Obj}{L:Ln Value}{ep:Nat}{t:SetTable}(hA:A.units<cLine)(ho:s.heap.get? a=some o)(hd:o.data = .set (L.map (·.2)).toArray ep t)(T:Tab t L)(hc:L.length<=t.mask)
  (hL:∀x∈L,∃k,Ent knd s.heap x k) (hb:L.length<=9900) {k:List K} {q:Addr} (hk:IsTupleKey knd s.heap k q) {adding:Bool} {Q:SetFound->Shared->Prop}
  (yes:(∃x∈L,Ent knd s.heap x k)->∀r,(adding=false->r.isSome=true)->Q (.there r) s)
  (no:(∀x∈L,¬ Ent knd s.heap x k)->∀n e,Way t.mask (Occ L) (sth t.mask (tupleKeyHash knd k)) n e->e<=t.mask->Q (.free e false) s) :
  wpAny (model prog w) A (setSearch a (.ref q) (tupleKeyHash knd k) adding) Q E s:=by
 obtain⟨n,e,wy,hn,he⟩:=T.way hc (tupleKeyHash knd k)
 refine Fb hA ho hd T hc hL hk yes (fun z=>no z n e wy he) n 100000 none wy ∅ (by unfold turns;omega) fun y hy hyk=>?_
 obtain⟨_,_,_,z3⟩:=hyk
 have:=T.on y hy
 rw[z3] at this
 exact this
theorem HN(q:Addr)(es:Array (Int×Value)):byScan (.ref q) es=false:=rfl
theorem Ei{a:Addr}{L:Ln Value}(hA:A.units<cLine)(S:E8 s.heap a L)(hL:∀x∈L,∃k,Ent knd s.heap x k)(hb:L.length<=9900){k:List K}{q:Addr}(hk:IsTupleKey knd s.heap k q){Q:Bool->Shared->Prop}
  (h:∀b:Bool,(b=true↔∃x∈L,Ent knd s.heap x k)->Q b {s with toks:=s.toks+(k.length+1)}):wpAny (model prog w) A (setContains a (.ref q)) Q E s:=by
 obtain⟨o,ep,t,ho,hex,hd,T,hr⟩:=S
 unfold setContains
 refine wpAny_holding (wpAny_bind (wpAny_pyHash_tuple hA hk (wpAny_bind ?_)))
 have hc:L.length<=t.mask:=by omega
 unfold setFind setFindIn
 refine wpAny_bind (wpAny_setState_of (s:={s with toks:=s.toks+(k.length+1)}) ho hd (fits_of T hc) ?_)
 dsimp only
 rw[HN]
 simp only[false_eq_true,if_false]
 refine wpAny_bind (Be (s:={s with toks:=s.toks+(k.length+1)}) hA ho hd T hc hL hb hk (fun z r hr=>?_) fun z n e _ _=>?_)
 ·refine wpAny_pure (wpAny_pure (h _ ⟨fun _=>z,fun _=>hr rfl⟩))
 ·refine wpAny_pure (wpAny_pure (h _ ⟨fun w=>(nomatch w),fun ⟨x,hx,hx2⟩=>absurd hx2 (z x hx)⟩))
theorem K3{ks:List K}{a:Addr}{Q:Bool->Shared->Prop}(hk:IsTupleKey knd s.heap ks a)(h:∀b,Q b s):wpAny (model prog w) A (hashByValue 8 (.ref a)) Q E s:=by
 have hT:=hk.typeIs
 obtain⟨o,items,n,ho,_,hd,hi⟩:=hk
 unfold hashByValue
 refine wpAny_bind (wpAny_specialOf hT F.slot_tuple_hash.lookup ?_)
 dsimp only
 refine wpAny_bind (wpAny_seqItems ho hd ?_)
 refine wpAny_bind ?_
 show wpAny _ _ (forIn items _ _) _ _ s
 rw[<- Array.forIn_toList]
 refine wpAny_forIn_list _ (fun rest r s'=>r.1=none/\s'=s/\∀v∈rest,carriedByValue v=true) _ ?_ ?_ _ _ ⟨rfl,rfl,hi.byValue⟩
 ·rintro v rest r s' ⟨hr,rfl,hall⟩
  have e:∃b,hashByValue 7 v=pure b:=by
   have:=hall v mem_cons_self
   cases v with
   |ref a=>simp[carriedByValue] at this
   |_=>exact⟨_,rfl⟩
  obtain⟨b,e⟩:=e
  rw[e]
  refine wpAny_bind (wpAny_pure ?_)
  cases b with
  |true=>
   simp only[Bool.not_true,false_eq_true,if_false]
   exact wpAny_pure ⟨rfl,rfl,fun u hu'=>hall u (mem_cons_of_mem _ hu')⟩
  |false=>
   simp only[Bool.not_false,if_true]
   exact wpAny_pure (wpAny_pure (h _))
 ·rintro ⟨r1,r2⟩ s' ⟨hr,rfl,_⟩
  simp only at hr
  subst hr
  exact wpAny_pure (h _)
theorem Tab.plain{t:SetTable}{L:Ln Value}(T:Tab t L)(b:Bool):Tab {t with plain:=b} L:=⟨T.place,T.ris,T.le,T.dum,T.two,T.on⟩
theorem Bg{h:Heap}{a:Addr}{o:Obj}{es:Array (Int×Value)}{ep:Nat}{t:SetTable}(ho:h.get? a=some o)(hd:o.data = .set es ep t)(es':Array (Int×Value))(t':SetTable) :
  (h.update a (Obj.putSet es' t')).get? a=some {o with data:=.set es' (ep+1) t'}:=by
 have:=Heap.get?_update_self (Obj.putSet es' t') ho (by rw[putSet_of es' t' hd];rfl)
 rw[putSet_of es' t' hd] at this;exact this
theorem Mq{a:Addr}{o:Obj}{L:Ln Value}{ep:Nat}{t:SetTable}(ho:s.heap.get? a=some o)(hex:o.ExactSet)(hd:o.data = .set (L.map (·.2)).toArray ep t)(T:Tab t L)(hc:L.length<=t.mask)(h0:0<L.length)(hb:L.length<=9900)
  {Q:Unit->Shared->Prop} (h:∀h' L',Heap.SameBut a s.heap h'->E8 h' a L'->L'.length=L.length->(∀y,y∈L'.map (·.2)↔y∈L.map (·.2))->Q () {s with heap:=h'}) :
  wpAny (model prog w) A (setRelay a (SetTable.grown L.length)) Q E s:=by
 have eg:SetTable.grown L.length=L.length*4:=by
  unfold SetTable.grown
  rw[if_neg ∅]
 rw[eg]
 obtain⟨k,k1,k2,k3,k4⟩:=MS (L.length*4) (Nat.lt_of_le_of_lt (show L.length*4<=40000 by omega) ⋯)
 have hk8:2 ^ 3<=2 ^ k:=Nat.pow_le_pow_right (show 2>0 by decide) k2
 have hm:(SetTable.sizeAbove (L.length*4)-1)+1=2 ^ k:=by rw[k1];omega
 have hD:(L.map (·.2)).length=L.length:=length_map ..
 obtain⟨t',order,L',l1,l2,l3,l4,l5,l6,_,_⟩:=M4 (β:=Value) hm k2 (L.map (·.2)) (by rw[hD,k1];omega) t.finger (t.movedTo (SetTable.sizeAbove (L.length*4)-1)) t.led t.plain
 rw[hD] at l4
 unfold setRelay
 refine wpAny_bind (wpAny_setState_of ho hd (fits_of T hc) ?_)
 dsimp only
 rw[if_neg (by rw[k1,sizeLine_eq];omega)]
 have er:t.relaid ((L.map (·.2)).toArray.map (·.1)) (L.length*4)=some (t',order):=l1
 rw[er]
 refine wpAny_bind ?_
 show wpAny _ _ (if ((order.filterMap ((L.map (·.2)).toArray[·]?)).size != (L.map (·.2)).toArray.size)=true then _ else _) _ _ s
 rw[l2]
 have e0:((L'.map (·.2)).toArray.size != (L.map (·.2)).toArray.size)=false:=by simp[l4]
 rw[e0]
 simp only[false_eq_true,if_false]
 refine wpAny_pure ?_
 dsimp only
 refine wpAny_storeSet_of ho hd ?_ (by rw[size_toArray,length_map,l4,sizeLine_eq];omega)
 exact h _ L' (Heap.SameBut.update s.heap a _) ⟨_,_,t',Bg ho hd _ _,hex,rfl,l3,by rw[l4,l6,k1];omega⟩ l4 l5
theorem Qk{a:Addr}{L:Ln Value}(hA:A.units<cLine)(S:E8 s.heap a L)(hL:∀x∈L,∃k,Ent knd s.heap x k)(hb:L.length<=9800){k:List K}{q:Addr}(hk:IsTupleKey knd s.heap k q){Q:Bool->Shared->Prop}
  (yes:(∃x∈L,Ent knd s.heap x k)->Q false {s with toks:=s.toks+(k.length+1)})
  (no:(∀x∈L,¬ Ent knd s.heap x k)->∀h' L',Heap.SameBut a s.heap h'->E8 h' a L'->L'.length=L.length+1->(∀y,y∈L'.map (·.2)↔y∈L.map (·.2)\/y=(tupleKeyHash knd k,.ref q)) ->
   Q true {s with heap:=h',toks:=s.toks+(k.length+1)}):wpAny (model prog w) A (setAdd a (.ref q)) Q E s:=by
 obtain⟨o,ep,t,ho,hex,hd,T,hr⟩:=S
 have hc:L.length<=t.mask:=by omega
 unfold setAdd
 refine wpAny_holding (wpAny_bind (wpAny_pyHash_tuple hA hk ?_))
 unfold setAddHashed
 refine wpAny_holding ?_
 unfold setAddHashedIn
 refine wpAny_bind (wpAny_setState_of (s:={s with toks:=s.toks+(k.length+1)}) ho hd (fits_of T hc) ?_)
 dsimp only
 rw[HN]
 simp only[false_eq_true,if_false]
 refine wpAny_bind (Be (s:={s with toks:=s.toks+(k.length+1)}) hA ho hd T hc hL ∅ hk (fun z r hr=>?_) fun z n e wy he=>?_)
 ·exact wpAny_pure (yes z)
 ·dsimp only
  refine wpAny_bind (wpAny_setState_of (s:={s with toks:=s.toks+(k.length+1)}) ho hd (fits_of T hc) ?_)
  dsimp only
  obtain⟨B1,B2,rfl,p1,p2⟩:=T.put (y:=Value.ref q) wy he
  have mk:(t.put e).1.mask=t.mask:=rfl
  rw[p1]
  have ees:insertAt ((B1++B2).map (·.2)).toArray B1.length (tupleKeyHash knd k,Value.ref q)=((B1++(e,tupleKeyHash knd k,Value.ref q)::B2).map (·.2)).toArray:=by
   rw[map_append,map_append]
   have:=Bh (B1.map (·.2)) (B2.map (·.2)) (tupleKeyHash knd k,Value.ref q)
   rw[length_map] at this
   exact this
  have len1:(B1++(e,tupleKeyHash knd k,Value.ref q)::B2).length=(B1++B2).length+1:=by simp;omega
  have mem1:∀y,y∈(B1++(e,tupleKeyHash knd k,Value.ref q)::B2).map (·.2)↔y∈(B1++B2).map (·.2)\/y=(tupleKeyHash knd k,.ref q):=fun y=>by
   rw[map_append,map_append,mem_append,mem_append,map_cons,mem_cons]
   constructor
   ·rintro (z|z|z)
    ·exact .inl (.inl z)
    ·exact .inr z
    ·exact .inl (.inr z)
   ·rintro ((z|z)|z)
    ·exact .inl z
    ·exact .inr (.inr z)
    ·exact .inr (.inl z)
  have tail:∀(t1:SetTable),Tab t1 (B1++(e,tupleKeyHash knd k,Value.ref q)::B2)->t1.mask=t.mask->wpAny (model prog w) A (do
    storeSet a (insertAt ((B1++B2).map (·.2)).toArray B1.length (tupleKeyHash knd k,Value.ref q)) t1
    if (!false&&t1.tooFull)=true then do
     setRelay a (SetTable.grown (((B1++B2).map (·.2)).toArray.size+1))
     pure true
    else pure true) Q E {s with toks:=s.toks+(k.length+1)}:=by
   intro t1 T1 m1
   rw[ees]
   have hs1:((B1++(e,tupleKeyHash knd k,Value.ref q)::B2).map (·.2)).toArray.size<=sizeLine:=by
    rw[size_toArray,length_map,len1,sizeLine_eq];omega
   refine wpAny_bind (wpAny_storeSet_of (s:={s with toks:=s.toks+(k.length+1)}) ho hd ?_ hs1)
   have ho1:=Bg ho hd ((B1++(e,tupleKeyHash knd k,Value.ref q)::B2).map (·.2)).toArray t1
   have sb1:=Heap.SameBut.update s.heap a (Obj.putSet ((B1++(e,tupleKeyHash knd k,Value.ref q)::B2).map (·.2)).toArray t1)
   have esz:((B1++B2).map (·.2)).toArray.size+1=(B1++(e,tupleKeyHash knd k,Value.ref q)::B2).length:=by
    rw[len1,size_toArray,length_map]
   rw[esz]
   by_cases tf:t1.tooFull=true
   ·rw[tf]
    rw[if_pos (by rfl)]
    refine wpAny_bind (Mq (s:={s with heap:=_,toks:=s.toks+(k.length+1)}) ho1 hex rfl T1 (by rw[len1,m1];omega) ∅ ∅ fun h' L' c1 c2 c3 c4=>?_)
    exact wpAny_pure (no z h' L' (sb1.trans c1) c2 (c3.trans len1) fun y=>(c4 y).trans (mem1 y))
   ·rw[if_neg (by simpa using tf)]
    refine wpAny_pure (no z _ _ sb1 ⟨_,_,t1,ho1,hex,rfl,T1,?_⟩ len1 mem1)
    unfold tooFull at tf
    rw[T1.fill] at tf
    simpa using tf
  by_cases pl:(t.put e).1.plain=true
  ·rw[if_pos pl]
   refine wpAny_bind (K3 (s:={s with toks:=s.toks+(k.length+1)}) hk fun b=>?_)
   cases b with
   |true=>exact tail _ p2 rfl
   |false=>exact tail _ (p2.plain false) rfl
  ·rw[if_neg pl]
   refine wpAny_bind (wpAny_pure ?_)
   exact tail _ p2 rfl
end
end ST
set_option maxHeartbeats 4000000
namespace NM
@[irreducible] def Sz (n:Nat) (i:Int):Prop:=i.natAbs<2 ^ n
theorem Sz.mono{n m:Nat}{i:Int}(h:Sz n i)(l:n<=m):Sz m i:=by unfold Sz at *;exact lt_of_lt_of_le h (Nat.pow_le_pow_right ⋯ l)
theorem Sz.mul{n m:Nat}{i j:Int}(h:Sz n i)(g:Sz m j):Sz (n+m) (i*j):=by
 unfold Sz at *
 rw[natAbs_mul,Nat.pow_add]
 exact Nat.mul_lt_mul'' h g
theorem Sz.add{n:Nat}{i j:Int}(h:Sz n i)(g:Sz n j):Sz (n+1) (i+j):=by
 unfold Sz at *
 have:=Int.natAbs_add_le i j
 rw[pow_succ]
 omega
theorem Sz.neg{n:Nat}{i:Int}(h:Sz n i):Sz n (-i):=by unfold Sz at *;rw[Int.natAbs_neg];exact h
theorem Sz.sub{n:Nat}{i j:Int}(h:Sz n i)(g:Sz n j):Sz (n+1) (i-j):=by rw[Int.sub_eq_add_neg];exact h.add g.neg
theorem Sz.le{n:Nat}{i j:Int}(h:Sz n i)(g:j.natAbs<=i.natAbs):Sz n j:=by unfold Sz at *;exact Nat.lt_of_le_of_lt g h
theorem Sz.of{n:Nat}{i:Int}(h:i.natAbs<2 ^ n):Sz n i:=by unfold Sz;exact h
theorem Sz.lt{n:Nat}{i:Int}(h:Sz n i):i.natAbs<2 ^ n:=by unfold Sz at h;exact h
noncomputable def g3(a b c:Int):Nat:=Int.gcd (Int.gcd a b:Nat) c
theorem MY(a b c:Int):Int.gcd (Int.gcd c a:Nat) b=g3 a b c:=by
 unfold g3
 simp only[Int.gcd,Int.natAbs_natCast]
 rw[Nat.gcd_assoc,Nat.gcd_comm]
theorem J9(a b c:Int):((g3 a b c:Nat):Int) ∣ a/\((g3 a b c:Nat):Int) ∣ b/\((g3 a b c:Nat):Int) ∣ c:=by
 have h:((g3 a b c:Nat):Int) ∣ ((Int.gcd a b:Nat):Int):=Int.gcd_dvd_left ..
 exact⟨Int.dvd_trans h (Int.gcd_dvd_left ..),Int.dvd_trans h (Int.gcd_dvd_right ..),Int.gcd_dvd_right ..⟩
theorem P0{a b c:Int}{k:Nat}(h1:(k:Int) ∣ a)(h2:(k:Int) ∣ b)(h3:(k:Int) ∣ c):k ∣ g3 a b c:=by
 unfold g3
 exact Int.dvd_gcd (Int.natCast_dvd_natCast.mpr (Int.dvd_gcd h1 h2)) h3
theorem Co{a b c:Int}(h:c≠0):0<g3 a b c:=by
 unfold g3
 exact Int.gcd_pos_of_ne_zero_right _ h
theorem Ml(a b c k:Int):g3 (a*k) (b*k) (c*k)=g3 a b c*k.natAbs:=by
 unfold g3
 simp only[Int.gcd,Int.natAbs_natCast,natAbs_mul,Nat.gcd_mul_right]
theorem Kq(a b c:Int):g3 a (-b) c=g3 a b c:=by
 unfold g3
 rw[Int.gcd_neg]
theorem Lz(a b c:Int):g3 (-a) b c=g3 a b c:=by
 unfold g3
 rw[Int.neg_gcd]
structure N3 where
 a:Int
 b:Int
 c:Int
deriving DecidableEq
theorem N3.ext'{x y:N3}(h1:x.a=y.a)(h2:x.b=y.b)(h3:x.c=y.c):x=y:=by cases x;cases y;simp_all
structure Ok(x:N3):Prop where
 c:0<x.c
 g:g3 x.a x.b x.c=1
noncomputable def dv(a b c:Int):Int:=if c<0 then -(g3 a b c:Nat) else (g3 a b c:Nat)
noncomputable def low(a b c:Int):N3:=⟨a.fdiv (dv a b c),b.fdiv (dv a b c),c.fdiv (dv a b c)⟩
theorem BC{a k q:Int}(hk:k≠0)(h:a=k*q):a.fdiv k=q:=by
 subst h
 exact Int.mul_fdiv_cancel_left q hk
theorem Ry{a b c:Int}(h:c≠0):dv a b c≠0:=by
 have:=Co (a:=a) (b:=b) h
 unfold dv
 split<;>omega
theorem OO(a b c:Int):dv a b c ∣ a/\dv a b c ∣ b/\dv a b c ∣ c:=by
 obtain⟨h1,h2,h3⟩:=J9 a b c
 unfold dv
 split
 ·exact⟨Int.neg_dvd.mpr h1,Int.neg_dvd.mpr h2,Int.neg_dvd.mpr h3⟩
 ·exact⟨h1,h2,h3⟩
theorem lH(a b:Int){c:Int}(h:c≠0):∃k:Int,k≠0/\(0<k↔0<c)/\a=k*(low a b c).a/\b=k*(low a b c).b/\c=k*(low a b c).c/\Ok (low a b c):=by
 have hk:=Ry (a:=a) (b:=b) h
 obtain⟨⟨p,hp⟩,⟨q,hq⟩,⟨r,hr⟩⟩:=OO a b c
 have ep:(low a b c).a=p:=BC hk hp
 have eq:(low a b c).b=q:=BC hk hq
 have er:(low a b c).c=r:=BC hk hr
 have hg:=Co (a:=a) (b:=b) h
 have hs:0<dv a b c↔0<c:=by unfold dv;split<;>omega
 have hr0:0<r:=by
  have hr':r≠0:=fun z=>h (by rw[hr,z,Int.mul_zero])
  rcases Int.lt_trichotomy 0 (dv a b c) with z|z|z
  ·have:=hs.mp z
   rw[hr] at this
   rw[Int.mul_comm] at this
   exact Int.pos_of_mul_pos_left this z |> fun t=>t
  ·exact absurd z.symm hk
  ·have:c<0:=by omega
   rcases Int.lt_trichotomy 0 r with w|w|w
   ·exact w
   ·exact absurd w.symm hr'
   ·have:=Int.mul_pos_of_neg_of_neg z w
    rw[<- hr] at this
    omega
 refine⟨dv a b c,hk,hs,by rw[ep];exact hp,by rw[eq];exact hq,by rw[er];exact hr,by rw[er];exact hr0,?_⟩
 rw[ep,eq,er]
 have e:=Ml p q r (dv a b c)
 rw[Int.mul_comm p,Int.mul_comm q,Int.mul_comm r,<- hp,<- hq,<- hr] at e
 have e2:(dv a b c).natAbs=g3 a b c:=by unfold dv;split<;>simp
 rw[e2] at e
 have:g3 p q r*g3 a b c=1*g3 a b c:=by omega
 exact Nat.eq_of_mul_eq_mul_right hg this
theorem qZ(a b:Int){c:Int}(h:c≠0):Ok (low a b c):=(lH a b h).choose_spec.2.2.2.2.2
theorem Ok.same{x y:N3}(hx:Ok x)(hy:Ok y)(h1:x.a*y.c=y.a*x.c)(h2:x.b*y.c=y.b*x.c):x=y:=by
 have key:∀{u v:N3},Ok u->Ok v->u.a*v.c=v.a*u.c->u.b*v.c=v.b*u.c->u.c ∣ v.c:=fun {u v} hu hv e1 e2=>by
  have hd:u.c.natAbs ∣ g3 (u.a*v.c) (u.b*v.c) (u.c*v.c):=P0
   (by rw[Int.natAbs_of_nonneg (le_of_lt hu.c),e1];exact Int.dvd_mul_left _ _) (by rw[Int.natAbs_of_nonneg (le_of_lt hu.c),e2];exact Int.dvd_mul_left _ _) (by rw[Int.natAbs_of_nonneg (le_of_lt hu.c)];exact Int.dvd_mul_right _ _)
  rw[Ml,hu.g,Nat.one_mul] at hd
  exact Int.natAbs_dvd_natAbs.mp hd
 have hc:x.c=y.c:=Int.dvd_antisymm (le_of_lt hx.c) (le_of_lt hy.c) (key hx hy h1 h2) (key hy hx h1.symm h2.symm)
 have hn:y.c≠0:=by have:=hy.c;omega
 rw[hc] at h1 h2
 exact N3.ext' (Int.eq_of_mul_eq_mul_right hn h1) (Int.eq_of_mul_eq_mul_right hn h2) hc
theorem PD(a b:Int){c:Int}(h:c≠0):(low a b c).a.natAbs<=a.natAbs/\(low a b c).b.natAbs<=b.natAbs/\(low a b c).c.natAbs<=c.natAbs:=by
 obtain⟨k,hk,_,p1,p2,p3,_⟩:=lH a b h
 have hk':1<=k.natAbs:=by omega
 have le:∀{u v:Int},u=k*v->v.natAbs<=u.natAbs:=fun {u v} e=>by
  rw[e,natAbs_mul]
  exact Nat.le_mul_of_pos_left _ hk'
 exact⟨le p1,le p2,le p3⟩
structure Bd(n:Nat)(x:N3):Prop where
 a:Sz n x.a
 b:Sz n x.b
 c:Sz n x.c
theorem Bd.mono{n m:Nat}{x:N3}(h:Bd n x)(l:n<=m):Bd m x:=⟨h.a.mono l,h.b.mono l,h.c.mono l⟩
theorem y9{a b c:Int}{n:Nat}(h:c≠0)(ha:Sz n a)(hb:Sz n b)(hc:Sz n c):Bd n (low a b c):=by
 obtain⟨h1,h2,h3⟩:=PD a b h
 exact⟨ha.le h1,hb.le h2,hc.le h3⟩
noncomputable def plus(x y:N3):N3:=low (x.a*y.c+y.a*x.c) (x.b*y.c+y.b*x.c) (x.c*y.c)
noncomputable def less(x y:N3):N3:=low (x.a*y.c-y.a*x.c) (x.b*y.c-y.b*x.c) (x.c*y.c)
noncomputable def times(d:Int)(x y:N3):N3:=low (x.a*y.a+d*x.b*y.b) (x.a*y.b+x.b*y.a) (x.c*y.c)
noncomputable def norm(d:Int)(x:N3):Int:=x.a*x.a-d*x.b*x.b
noncomputable def Ll(d:Int)(x:N3):N3:=low (x.c*x.a) (-x.c*x.b) (norm d x)
noncomputable def NV(x:N3):N3:=⟨x.a,-x.b,x.c⟩
noncomputable def minus(x:N3):N3:=⟨-x.a,-x.b,x.c⟩
noncomputable def ax:N3:=⟨0,0,1⟩
theorem Ok.cn{x:N3}(h:Ok x):x.c≠0:=by have:=h.c;omega
theorem Cr{x y:N3}(h:Ok x)(g:Ok y):x.c*y.c≠0:=Int.mul_ne_zero h.cn g.cn
theorem iX{x:N3}(h:Ok x):Ok (minus x):=⟨h.c,by show g3 (-x.a) (-x.b) x.c=1;rw[Lz,Kq];exact h.g⟩
theorem bS{x y:N3}(h:Ok x)(g:Ok y):Ok (plus x y):=qZ _ _ (Cr h g)
theorem aZ{x y:N3}(h:Ok x)(g:Ok y):Ok (less x y):=qZ _ _ (Cr h g)
theorem gY:Ok ax:=⟨⋯,⋯⟩
theorem sU{n:Nat}{x:N3}(h:Bd n x):Bd n (minus x):=⟨h.a.neg,h.b.neg,h.c⟩
theorem rW{n m:Nat}{x y:N3}(hx:Ok x)(hy:Ok y)(h:Bd n x)(g:Bd m y):Bd (n+m+1) (plus x y):=
 y9 (Cr hx hy) ((h.a.mul g.c).add ((g.a.mul h.c).mono ∅)) ((h.b.mul g.c).add ((g.b.mul h.c).mono ∅)) ((h.c.mul g.c).mono ∅)
theorem kF{n m:Nat}{x y:N3}(hx:Ok x)(hy:Ok y)(h:Bd n x)(g:Bd m y):Bd (n+m+1) (less x y):=
 y9 (Cr hx hy) ((h.a.mul g.c).sub ((g.a.mul h.c).mono ∅)) ((h.b.mul g.c).sub ((g.b.mul h.c).mono ∅)) ((h.c.mul g.c).mono ∅)
theorem Qq{d:Int}(h:2<=d)(h':d<=30):Sz 5 d:=by unfold Sz;omega
noncomputable def aJ(d:Int):Prop:=2<=d/\d<=30/\d≠4/\d≠9/\d≠16/\d≠25
theorem JD{d:Nat}(h:∀m:Nat,m*m≠d):∀{a b:Nat},a*a=d*(b*b)->b=0:=fun {a b} e=>by
 rcases Nat.eq_zero_or_pos b with hb|hb
 ·exact hb
 exfalso
 obtain⟨g,p,q,hg,hc,rfl,rfl⟩:=Nat.exists_coprime' (m:=a) (n:=b) (Nat.gcd_pos_of_pos_right _ hb)
 have e2:(p*p)*(g*g)=(d*(q*q))*(g*g):=by grind
 have e3:p*p=d*(q*q):=Nat.eq_of_mul_eq_mul_right (Nat.mul_pos hg hg) e2
 have hq:q ∣ p*p:=⟨d*q,by rw[e3];grind⟩
 have hq1:q ∣ p:=hc.symm.dvd_of_dvd_mul_left hq
 have hq2:q=1:=by
  have:=Nat.dvd_gcd hq1 (Nat.dvd_refl q)
  rw[hc] at this
  exact Nat.dvd_one.mp this
 subst hq2
 exact h p (by rw[e3];simp)
theorem aJ.nat{d:Int}(h:aJ d):∀m:Nat,m*m≠d.toNat:=fun m e=>by
 obtain⟨h1,h2,h3,h4,h5,h6⟩:=h
 have hm:m<=5:=by
  rcases lt_or_ge 5 m with z|z
  ·have:=mul_le_mul z z;omega
  ·exact z
 have:m=0\/m=1\/m=2\/m=3\/m=4\/m=5:=by omega
 rcases this with rfl|rfl|rfl|rfl|rfl|rfl<;>omega
theorem aJ.JJ{d a b:Int}(h:aJ d)(e:a*a=d*b*b):a=0/\b=0:=by
 have hd:d=((d.toNat:Nat):Int):=by have:=h.1;omega
 have e1:a.natAbs*a.natAbs=d.toNat*(b.natAbs*b.natAbs):=by
  have e2:=congrArg Int.natAbs e
  rw[natAbs_mul,natAbs_mul,natAbs_mul] at e2
  rw[e2,Nat.mul_assoc]
  congr 1
  omega
 have hb:=JD h.nat e1
 have hb':b=0:=by omega
 subst hb'
 have:a*a=0:=by rw[e];simp
 exact⟨by rcases Int.mul_eq_zero.mp this with z|z<;>exact z,rfl⟩
noncomputable def sg(d a b:Int):Int:=
 if a=0/\b=0 then 0 else if 0<=a/\0<=b then 1 else if a<=0/\b<=0 then -1 else if (if d*b*b<a*a then a else b)>0 then 1 else -1
theorem Oh{u v:Int}(hu:0<=u)(h:u*u<=v*v)(hv:0<=v):u<=v:=by
 rcases Int.lt_or_le v u with z|z
 ·have:=Int.mul_lt_mul_of_pos_left z (show 0<u by omega)
  have:=Int.mul_le_mul_of_nonneg_right (le_of_lt z) hv
  omega
 ·exact z
theorem sq_nonneg(u:Int):0<=u*u:=by
 rcases Int.le_total 0 u with h|h
 ·exact mul_nonneg h h
 ·exact Int.mul_nonneg_of_nonpos_of_nonpos h h
noncomputable def P(d a b:Int):Prop:=(0<=a/\0<=b/\¬ (a=0/\b=0))\/(0<a/\b<0/\d*b*b<a*a)\/(a<0/\0<b/\a*a<d*b*b)
theorem kP{d a b:Int}(h:aJ d):sg d a b=1↔P d a b:=by
 unfold sg P
 have key:a*a=d*b*b->a=0/\b=0:=h.JJ
 by_cases c1:d*b*b<a*a
 ·simp only[c1,if_true];split<;>(try split)<;>(try split)<;>(try split)<;>simp<;>omega
 ·simp only[c1,if_false];split<;>(try split)<;>(try split)<;>(try split)<;>simp<;>omega
theorem Cf{d a b:Int}(h:aJ d):sg d (-a) (-b) = - sg d a b:=by
 unfold sg
 have key:a*a=d*b*b->a=0/\b=0:=h.JJ
 have e1:d * -b * -b=d*b*b:=by grind
 have e2:-a * -a=a*a:=by grind
 rw[e1,e2]
 by_cases c1:d*b*b<a*a
 ·simp only[c1,if_true];split<;>split<;>(try split)<;>(try split)<;>(try split)<;>(try split)<;>(try split)<;>(try split)<;>omega
 ·simp only[c1,if_false];split<;>split<;>(try split)<;>(try split)<;>(try split)<;>(try split)<;>(try split)<;>(try split)<;>omega
theorem iL{d a b:Int}:sg d a b=0↔a=0/\b=0:=by
 unfold sg;split<;>(try split)<;>(try split)<;>(try split)<;>omega
theorem nz(d a b:Int):sg d a b=0\/sg d a b=1\/sg d a b = -1:=by
 unfold sg;split<;>(try split)<;>(try split)<;>(try split)<;>omega
theorem Rz{d a b:Int}(h:aJ d):(a=0/\b=0)\/P d a b\/P d (-a) (-b):=by
 rcases nz d a b with e|e|e
 ·exact .inl (iL.mp e)
 ·exact .inr (.inl ((kP h).mp e))
 ·exact .inr (.inr ((kP h).mp (by rw[Cf h,e];rfl)))
theorem pZ{d a b:Int}(h:aJ d)(n:d*b*b<a*a):P d a b↔0<a:=by
 unfold P
 have:=sq_nonneg b
 have h0:0<=d*b*b:=by rw[Int.mul_assoc];exact mul_nonneg (by have:=h.1;omega) this
 have ha:a≠0:=fun z=>by subst z;simp at n;omega
 omega
theorem lG{d a b:Int}(h:aJ d)(n:a*a<d*b*b):P d a b↔0<b:=by
 unfold P
 have h0:=sq_nonneg a
 have hb:b≠0:=fun z=>by subst z;simp at n;omega
 omega
theorem sE{u v:Int}(h:v*v<u*u):0<u+v↔0<u:=by
 have hu:u≠0:=fun z=>by subst z;have:=sq_nonneg v;simp at h;omega
 have l:v.natAbs<u.natAbs:=by
  rcases lt_or_ge v.natAbs u.natAbs with z|z
  ·exact z
  ·have:=mul_le_mul z z
   have e1:((u.natAbs*u.natAbs:Nat):Int)=u*u:=Int.natAbs_mul_self
   have e2:((v.natAbs*v.natAbs:Nat):Int)=v*v:=Int.natAbs_mul_self
   omega
 omega
theorem mul_pos_iff{u v:Int}(hu:u≠0)(hv:v≠0):0<u*v↔(0<u↔0<v):=by
 rcases Int.lt_or_gt_of_ne hu with h|h<;>rcases Int.lt_or_gt_of_ne hv with g|g
 ·have:=Int.mul_pos_of_neg_of_neg h g;omega
 ·have:=Int.mul_neg_of_neg_of_pos h g;omega
 ·have:=Int.mul_neg_of_pos_of_neg h g;omega
 ·have:=Int.mul_pos h g;omega
theorem y7{u v s t:Int}(hu:0<=u)(h:u<v)(hs:0<=s)(g:s<t):u*s<v*t:=by
 have e1:u*s<=v*s:=Int.mul_le_mul_of_nonneg_right (le_of_lt h) hs
 have e2:v*s<v*t:=Int.mul_lt_mul_of_pos_left g ∅
 omega
theorem dsq{d b:Int}(hd:0<d):0<=d*b*b:=by rw[Int.mul_assoc];exact mul_nonneg (le_of_lt hd) (sq_nonneg b)
theorem Q3{d a b p q:Int}(h:aJ d)(h1:¬ (a=0/\b=0))(h2:¬ (p=0/\q=0)):P d (a*p+d*b*q) (a*q+b*p)↔(P d a b↔P d p q):=by
 have hd:0<d:=by have:=h.1;omega
 have n1:a*a≠d*b*b:=fun e=>h1 (h.JJ e)
 have n2:p*p≠d*q*q:=fun e=>h2 (h.JJ e)
 have pz:∀{u v:Int},d*v*v<u*u->u≠0:=fun {u v} e z=>by subst z;have:=dsq (b:=v) hd;simp at e;omega
 have qz:∀{u v:Int},u*u<d*v*v->v≠0:=fun {u v} e z=>by subst z;have:=sq_nonneg u;simp at e;omega
 have id1:(a*p+d*b*q)*(a*p+d*b*q)-d*(a*q+b*p)*(a*q+b*p)=(a*a-d*b*b)*(p*p-d*q*q):=by grind
 rcases Int.lt_or_gt_of_ne n1 with c1|c1<;>rcases Int.lt_or_gt_of_ne n2 with c2|c2
 ·have pp:=Int.mul_pos_of_neg_of_neg (show a*a-d*b*b<0 by omega) (show p*p-d*q*q<0 by omega)
  rw[pZ h ∅,lG h c1,lG h c2]
  have sq:(a*p)*(a*p)<(d*b*q)*(d*b*q):=by
   have e2:=y7 (sq_nonneg a) c1 (sq_nonneg p) c2
   grind
  rw[Int.add_comm,sE sq,Int.mul_assoc,mul_pos_iff ∅ (Int.mul_ne_zero (qz c1) (qz c2)),mul_pos_iff (qz c1) (qz c2)]
  omega
 ·have pp:=Int.mul_neg_of_neg_of_pos (show a*a-d*b*b<0 by omega) (show 0<p*p-d*q*q by omega)
  rw[lG h ∅,lG h c1,pZ h c2]
  have sq:(a*q)*(a*q)<(b*p)*(b*p):=by
   have e2:=y7 (sq_nonneg a) c1 (dsq (b:=q) hd) c2
   have e3:d*((a*q)*(a*q))<d*((b*p)*(b*p)):=by grind
   exact Int.lt_of_mul_lt_mul_left e3 (le_of_lt hd)
  rw[Int.add_comm,sE sq,mul_pos_iff (qz c1) (pz c2)]
 ·have pp:=Int.mul_neg_of_pos_of_neg (show 0<a*a-d*b*b by omega) (show p*p-d*q*q<0 by omega)
  rw[lG h ∅,pZ h c1,lG h c2]
  have sq:(b*p)*(b*p)<(a*q)*(a*q):=by
   have e2:=y7 (dsq (b:=b) hd) c1 (sq_nonneg p) c2
   have e3:d*((b*p)*(b*p))<d*((a*q)*(a*q)):=by grind
   exact Int.lt_of_mul_lt_mul_left e3 (le_of_lt hd)
  rw[sE sq,mul_pos_iff (pz c1) (qz c2)]
 ·have pp:=Int.mul_pos (show 0<a*a-d*b*b by omega) (show 0<p*p-d*q*q by omega)
  rw[pZ h ∅,pZ h c1,pZ h c2]
  have sq:(d*b*q)*(d*b*q)<(a*p)*(a*p):=by
   have e2:=y7 (dsq (b:=b) hd) c1 (dsq (b:=q) hd) c2
   grind
  rw[sE sq,mul_pos_iff (pz c1) (pz c2)]
theorem QV{d A x B y:Int}(hd:0<d)(hA:0<=A)(hx:0<=x)(hB:0<=B)(hy:0<=y)(h1:A*A<=d*B*B)(h2:x*x<=d*y*y):A*x<=d*(B*y):=by
 refine Oh (mul_nonneg hA hx) ?_ (mul_nonneg (le_of_lt hd) (mul_nonneg hB hy))
 have:=Int.mul_le_mul h1 h2 (sq_nonneg x) (dsq hd)
 grind
theorem T1{d A x B y:Int}(hd:0<d)(hA:0<=A)(hx:0<=x)(hB:0<=B)(hy:0<=y)(h1:A*A<d*B*B)(h2:x*x<d*y*y):(A+x)*(A+x)<d*(B+y)*(B+y):=by
 have:=QV hd hA hx hB hy (le_of_lt h1) (le_of_lt h2)
 grind
theorem T2{d A x B y:Int}(hd:0<d)(hA:0<=A)(hx:0<=x)(hB:0<=B)(hy:0<=y)(h1:d*B*B<A*A)(h2:d*y*y<x*x):d*(B+y)*(B+y)<(A+x)*(A+x):=by
 have:d*(B*y)<=A*x:=by
  refine Oh (mul_nonneg (le_of_lt hd) (mul_nonneg hB hy)) ?_ (mul_nonneg hA hx)
  have:=y7 (dsq (b:=B) hd) h1 (dsq (b:=y) hd) h2
  grind
 grind
theorem Z1{d x1 y1 x2 y2:Int}(hd:0<d)(h1:x1*x1<d*y1*y1)(h2:d*y2*y2<x2*x2)(a1:0<=x2)(a2:x2<=x1)(a3:0<=y1)(a4:y1<=y2):False:=by
 have e1:=Int.mul_le_mul a2 a2 a1 (Int.le_trans a1 a2)
 have e2:=Int.mul_le_mul_of_nonneg_left (Int.mul_le_mul a4 a4 a3 (Int.le_trans a3 a4)) (le_of_lt hd)
 grind
theorem Z2{d x1 y1 x2 y2 x3 y3:Int}(hd:0<d)(h1:x1*x1<d*y1*y1)(h2:d*y2*y2<x2*x2)(h3:d*y3*y3<x3*x3)(a1:0<=x2)(a2:0<=y2)(a3:0<=x3)(a4:0<=y3)(e1:x1=x2+x3)(e2:y1=y2+y3):False:=by
 subst e1 e2
 have:=T2 hd a1 a3 a2 a4 h2 h3
 omega
theorem Z3{d x1 y1 x2 y2 x3 y3:Int}(hd:0<d)(h1:d*y1*y1<x1*x1)(h2:x2*x2<d*y2*y2)(h3:x3*x3<d*y3*y3)(a1:0<=x2)(a2:0<=y2)(a3:0<=x3)(a4:0<=y3)(e1:x1=x2+x3)(e2:y1=y2+y3):False:=by
 subst e1 e2
 have:=T1 hd a1 a3 a2 a4 h2 h3
 omega
theorem RA{d a b p q u v:Int}(h:aJ d)(h1:P d a b)(h2:P d p q)(h3:P d u v)(e1:a+p+u=0)(e2:b+q+v=0):False:=by
 have hd:0<d:=by have:=h.1;omega
 unfold P at h1 h2 h3
 have x1:∀{u c:Int},u*u<c->-u * -u<c:=fun {u c} e=>by grind
 have x2:∀{u c:Int},c<u*u->c < -u * -u:=fun {u c} e=>by grind
 have x3:∀{u c:Int},c<d*u*u->c<d * -u * -u:=fun {u c} e=>by grind
 have x4:∀{u c:Int},d*u*u<c->d * -u * -u<c:=fun {u c} e=>by grind
 rcases h1 with ⟨u1,u2,u3⟩|⟨u1,u2,u3⟩|⟨u1,u2,u3⟩<;>rcases h2 with ⟨v1,v2,v3⟩|⟨v1,v2,v3⟩|⟨v1,v2,v3⟩<;>rcases h3 with ⟨w1,w2,w3⟩|⟨w1,w2,w3⟩|⟨w1,w2,w3⟩<;>(try omega)
 all_goals first
  |exact Z1 hd (x1 u3) (x4 v3) ∅ ∅ ∅ ∅
  |exact Z1 hd (x1 v3) (x4 u3) ∅ ∅ ∅ ∅
  |exact Z1 hd (x1 u3) (x4 w3) ∅ ∅ ∅ ∅
  |exact Z1 hd (x1 w3) (x4 u3) ∅ ∅ ∅ ∅
  |exact Z1 hd (x1 v3) (x4 w3) ∅ ∅ ∅ ∅
  |exact Z1 hd (x1 w3) (x4 v3) ∅ ∅ ∅ ∅
  |exact Z2 hd (x1 u3) (x4 v3) (x4 w3) ∅ ∅ ∅ ∅ ∅ ∅
  |exact Z2 hd (x1 v3) (x4 u3) (x4 w3) ∅ ∅ ∅ ∅ ∅ ∅
  |exact Z2 hd (x1 w3) (x4 u3) (x4 v3) ∅ ∅ ∅ ∅ ∅ ∅
  |exact Z3 hd (x4 u3) (x1 v3) (x1 w3) ∅ ∅ ∅ ∅ ∅ ∅
  |exact Z3 hd (x4 v3) (x1 u3) (x1 w3) ∅ ∅ ∅ ∅ ∅ ∅
  |exact Z3 hd (x4 w3) (x1 u3) (x1 v3) ∅ ∅ ∅ ∅ ∅ ∅
theorem Rc{d a b p q:Int}(h:aJ d)(h1:P d a b)(h2:P d p q):P d (a+p) (b+q):=by
 rcases Rz (a:=a+p) (b:=b+q) h with ⟨e1,e2⟩|e|e
 ·have ea:p = -a:=by omega
  have eb:q = -b:=by omega
  subst ea eb
  have s1:=(kP h).mpr h1
  have s2:=(kP h).mpr h2
  rw[Cf h,s1] at s2
  omega
 ·exact e
 ·exact (RA h h1 h2 e ∅ ∅).elim
theorem O2{d a b p q:Int}(h:aJ d):sg d (a*p+d*b*q) (a*q+b*p)=sg d a b*sg d p q:=by
 by_cases h1:a=0/\b=0
 ·obtain⟨rfl,rfl⟩:=h1
  have e:sg d (0:Int) 0=0:=iL.mpr ⟨rfl,rfl⟩
  rw[e];simp[iL]
 by_cases h2:p=0/\q=0
 ·obtain⟨rfl,rfl⟩:=h2
  have e:sg d (0:Int) 0=0:=iL.mpr ⟨rfl,rfl⟩
  rw[e];simp[iL]
 have k:=Q3 h h1 h2
 have h3:¬ (a*p+d*b*q=0/\a*q+b*p=0):=fun ⟨e1,e2⟩=>by
  have id1:(a*p+d*b*q)*(a*p+d*b*q)-d*(a*q+b*p)*(a*q+b*p)=(a*a-d*b*b)*(p*p-d*q*q):=by grind
  rw[e1,e2] at id1
  simp only[Int.mul_zero,Int.sub_self] at id1
  rcases Int.mul_eq_zero.mp id1.symm with z|z
  ·exact h1 (h.JJ ∅)
  ·exact h2 (h.JJ ∅)
 rw[<- kP h,<- kP h,<- kP h] at k
 have t1:=nz d a b
 have t2:=nz d p q
 have t3:=nz d (a*p+d*b*q) (a*q+b*p)
 have z1:sg d a b≠0:=fun z=>h1 (iL.mp z)
 have z2:sg d p q≠0:=fun z=>h2 (iL.mp z)
 have z3:sg d (a*p+d*b*q) (a*q+b*p)≠0:=fun z=>h3 (iL.mp z)
 rcases t1 with e|e|e<;>rcases t2 with f|f|f<;>rcases t3 with g|g|g<;>simp_all
theorem pJ{d a b k:Int}(h:aJ d)(hk:0<k):sg d (k*a) (k*b)=sg d a b:=by
 have e:=O2 (a:=k) (b:=0) (p:=a) (q:=b) h
 have e1:sg d k 0=1:=by unfold sg;rw[if_neg ∅,if_pos ∅]
 rw[e1] at e
 simpa using e
end NM
namespace L2
open PySem PySem.Spec PyProof.Rows
section
variable {X:Cx}{pins:List (Addr×Obj)}{σ:St}{H:Hp}{s:Shared}{a:Addr}{y v:V}{u r:Value}{o:Option V}{A:Around}{E:Value->Shared->Prop}
theorem Inv.big(I:Inv X pins σ H s):sysModules<s.heap.objs.size:=by
 have h:mainGlobals<s.heap.objs.size:=(I.mod.glob.keeps I.bk).lt
 exact Nat.lt_trans ⋯ h
theorem BL{h':Heap}{t':Nat}{ob:HO}(I:Inv X pins σ H s)(mu:Mut (H a))(hs:Heap.SameBut a s.heap h')(he:∃q,h'.get? a=some q)(new:jU X.prog X.w (upd H a ob) h' a ob) :
  Inv X pins σ (upd H a ob) {s with heap:=h',toks:=t'}:=
 I.write (x:=a) (e:=a) mu (.inl rfl) (fun b q hb z=>(hs.2 b hb).trans z) he new
end
noncomputable def Qx(i:Expr):Prop:=∀ov iv,subscripted i false ov iv=operate [ov,iv] (getItem ov iv)
theorem MU{prog:Program}{w:World}{A:Around}{E:Value->Shared->Prop}{s:Shared}{env:Env}{value slice:Expr}{pos:Pos}{T id:String}{Q:Value->Shared->Prop}
  (hl:typeLookup (.type T) "__getitem__"=pure (some (.builtin id))) (hs:Qx slice)
  (h:wpAny (model prog w) A (eval value env) (fun o ca=>wpAny (model prog w) A (eval slice env) (fun i gl=>gl.TypeIs o T/\wpAny (model prog w) A (getItem o i) Q E gl) E ca) E s) :
  wpAny (model prog w) A (eval (.Subscript value slice pos) env) Q E s:=by
 refine Subscript_ (wpAny_mono h (fun o ca dL=>wpAny_mono dL (fun i gl mt=>?_) fun _ _ x=>x) fun _ _ x=>x)
 obtain⟨hT,mt⟩:=mt
 unfold subscriptTail
 refine wpAny_bind ?_
 rw[getitemInPython_of_ne hT.not_modules]
 refine wpAny_bind (wpAny_specialOf hT hl ?_)
 have fin:wpAny (model prog w) A (subscripted slice false o i) (fun r bv=>wpAny (model prog w) A (letTemporaryGo value o r>>=fun _=>pure r) Q E bv) E gl:=by
  rw[hs o i]
  exact wpAny_operating (wpAny_mono mt (fun r bv pd=>wpAny_bind (wpAny_letTemporaryGo (wpAny_pure pd))) fun _ _ x=>x)
 first
  |exact wpAny_pure (wpAny_bind fin)
  |exact wpAny_bind (wpAny_pure (wpAny_bind fin))
  |exact wpAny_bind fin
structure M1(X:Cx)(o:Expr)(m:Str)(apos:Pos)(e:Expr)(cpos:Pos):Prop where
 base:attributeBase o m X.env (eval o X.env)=eval o X.env
 few:((backTo cpos (starEach [e] X.env)).all (fun x=>!x.1)&&(backToKw cpos (keywordEach [] X.env)).all (fun x=>x.1.isSome)
  && decide (([e]:List Expr).length+([]:List Keyword).length+(if ([]:List Keyword).isEmpty then 0 else 1)<30))=true
 line:(apos.endLine==cpos.line)=true
 trees:backTo cpos (starEach [e] X.env)=[(false,eval e X.env)]
end L2
namespace NM
structure Rep(x:N3)(A B C:Int):Prop where
 c:C≠0
 a:x.a*C=A*x.c
 b:x.b*C=B*x.c
section
variable {x y:N3}{A B C A' B' C' d:Int}
theorem aR(h:Ok x):Rep x x.a x.b x.c:=⟨h.cn,rfl,rfl⟩
theorem jt{a b c:Int}(h:c≠0):Rep (low a b c) a b c:=by
 obtain⟨k,hk,_,p1,p2,p3,_⟩:=lH a b h
 generalize low a b c=z at *
 exact⟨h,by grind,by grind⟩
theorem Rep.eq(ox:Ok x)(oy:Ok y)(h:Rep x A B C)(g:Rep y A' B' C')(e1:A*C'=A'*C)(e2:B*C'=B'*C):x=y:=by
 have hc:C*C'≠0:=Int.mul_ne_zero h.c g.c
 obtain⟨_,h1,h2⟩:=h
 obtain⟨_,g1,g2⟩:=g
 exact ox.same oy (Int.eq_of_mul_eq_mul_right hc (by grind)) (Int.eq_of_mul_eq_mul_right hc (by grind))
theorem Rep.minus(h:Rep x A B C):Rep (minus x) (-A) (-B) C:=⟨h.c,by show -x.a*C = -A*x.c;have:=h.a;grind,by show -x.b*C = -B*x.c;have:=h.b;grind⟩
theorem Rep.plus(ox:Ok x)(oy:Ok y)(h:Rep x A B C)(g:Rep y A' B' C'):Rep (plus x y) (A*C'+A'*C) (B*C'+B'*C) (C*C'):=by
 have hc:=Cr ox oy
 obtain⟨_,q1,q2⟩:=jt (a:=x.a*y.c+y.a*x.c) (b:=x.b*y.c+y.b*x.c) hc
 obtain⟨hc1,h1,h2⟩:=h
 obtain⟨hc2,g1,g2⟩:=g
 change (NM.plus x y).a*(x.c*y.c)=_*(NM.plus x y).c at q1
 change (NM.plus x y).b*(x.c*y.c)=_*(NM.plus x y).c at q2
 generalize NM.plus x y=z at *
 exact⟨Int.mul_ne_zero hc1 hc2,Int.eq_of_mul_eq_mul_right hc (by grind),Int.eq_of_mul_eq_mul_right hc (by grind)⟩
theorem Rep.less(ox:Ok x)(oy:Ok y)(h:Rep x A B C)(g:Rep y A' B' C'):Rep (less x y) (A*C'-A'*C) (B*C'-B'*C) (C*C'):=by
 have hc:=Cr ox oy
 obtain⟨_,q1,q2⟩:=jt (a:=x.a*y.c-y.a*x.c) (b:=x.b*y.c-y.b*x.c) hc
 obtain⟨hc1,h1,h2⟩:=h
 obtain⟨hc2,g1,g2⟩:=g
 change (NM.less x y).a*(x.c*y.c)=_*(NM.less x y).c at q1
 change (NM.less x y).b*(x.c*y.c)=_*(NM.less x y).c at q2
 generalize NM.less x y=z at *
 exact⟨Int.mul_ne_zero hc1 hc2,Int.eq_of_mul_eq_mul_right hc (by grind),Int.eq_of_mul_eq_mul_right hc (by grind)⟩
end
end NM
namespace NM
noncomputable def HZ(d:Int)(x:N3):N3:=times d (times d (plus x (NV x)) (plus x (NV x))) (Ll d (times d x (NV x)))
section
variable {d:Int}{x y z:N3}
noncomputable def W(x y:N3):Int:=x.b*y.a-x.a*y.b
noncomputable def NP(d:Int)(x y:N3):Int:=sg d (x.a*y.c-y.a*x.c) (x.b*y.c-y.b*x.c)
theorem Lk(ox:Ok x)(oy:Ok y)(e:NP d x y=0):x=y:=by
 obtain⟨h1,h2⟩:=iL.mp e
 exact ox.same oy ∅ ∅
end
end NM
namespace NM
end NM
namespace NM
section
variable {d:Int}{x y z:N3}
noncomputable def gtL(d:Int)(k o:N3):Prop:=((HZ d o).a.natAbs:Int)*(HZ d k).c<((HZ d k).a.natAbs:Int)*(HZ d o).c
noncomputable instance:Decidable (gtL d x y):=by unfold gtL;infer_instance
end
end NM
set_option maxHeartbeats 1000000
namespace NM
end NM
set_option maxHeartbeats 4000000
namespace NM
end NM
set_option maxHeartbeats 400000
namespace NM
end NM
namespace NM
end NM
set_option maxHeartbeats 4000000
namespace NM
section
variable {d:Int}{x y z u p q s t w h p' q' s' t' w' h':N3}
noncomputable def hf(d:Int)(p q h:N3):N3:=plus (times d p h) (times d q (NV h))
end
end NM
set_option maxHeartbeats 400000
namespace NM
end NM
set_option maxHeartbeats 4000000
namespace GR
theorem pig{α:Type}[DecidableEq α]{l m:List α}(hn:l.Nodup)(hs:∀x∈l,x∈m):l.length<=m.length:=by
 induction l generalizing m with
 |nil=>exact zero_le _
 |cons a l ih=>
  obtain⟨h1,h2⟩:=List.nodup_cons.mp hn
  have hm:a∈m:=hs a mem_cons_self
  have:=ih (m:=m.erase a) h2 fun x hx=>(List.mem_erase_of_ne (show x≠a from fun e=>h1 (e▸hx))).mpr (hs x (mem_cons_of_mem _ hx))
  rw[List.length_erase_of_mem hm] at this
  have:0<m.length:=List.length_pos_of_mem hm
  simp only[length_cons]
  omega
theorem NO{α:Type}[DecidableEq α]{l m:List α}(hn:l.Nodup)(hs:∀x∈l,x∈m)(hl:m.length<=l.length){x:α}(hx:x∈m):x∈l:=by
 by_cases c:x∈l
 ·exact c
 ·have:=pig (l:=x::l) (m:=m) (List.nodup_cons.mpr ⟨c,hn⟩) fun y hy=>by
   rcases List.mem_cons.mp hy with rfl|hy
   ·exact hx
   ·exact hs y hy
  simp only[length_cons] at this
  omega
theorem Rx{α:Type}[DecidableEq α]{l m:List α}(hn:l.Nodup)(hm:m.Nodup)(h:∀x,x∈l↔x∈m):l.length=m.length:=
 Nat.le_antisymm (pig hn fun x=>(h x).mp) (pig hm fun x=>(h x).mpr)
structure Bx where
 l:Nat
 r:Nat
 b:Nat
 t:Nat
noncomputable def Bx.has(q:Bx)(i j:Nat):Prop:=q.l<=i/\i<q.r/\q.b<=j/\j<q.t
noncomputable def run(a b:Nat):List Nat:=(List.range (b-a)).map (a + ·)
theorem MK{a b x:Nat}:x∈run a b↔a<=x/\x<b:=by
 unfold run
 simp only[mem_map,List.mem_range]
 constructor
 ·rintro ⟨k,h,rfl⟩;omega
 ·rintro ⟨h1,h2⟩;exact⟨x-a,∅,∅⟩
theorem Bl{a b:Nat}:(run a b).Nodup:=by
 unfold run
 refine List.Pairwise.map _ (fun x y h e=>h ∅) List.nodup_range
theorem qc{a b:Nat}:(run a b).length=b-a:=by simp[run]
noncomputable def cellsOf(q:Bx):List (Nat×Nat):=(run q.l q.r).flatMap fun i=>(run q.b q.t).map fun j=>(i,j)
theorem bN{q:Bx}{i j:Nat}:(i,j)∈cellsOf q↔q.has i j:=by
 unfold cellsOf Bx.has
 simp only[List.mem_flatMap,mem_map,MK,Prod.mk.injEq]
 constructor
 ·rintro ⟨a,⟨h1,h2⟩,b,⟨h3,h4⟩,rfl,rfl⟩;exact⟨h1,h2,h3,h4⟩
 ·rintro ⟨h1,h2,h3,h4⟩;exact⟨i,⟨h1,h2⟩,j,⟨h3,h4⟩,rfl,rfl⟩
theorem xB{α β:Type}{f:α->List β}{l:List α}:(l.flatMap f).Nodup↔(∀x∈l,(f x).Nodup)/\l.Pairwise fun a b=>∀y∈f a,y ∉ f b:=by
 induction l with
 |nil=>simp
 |cons a l ih=>
  rw[flatMap_cons,List.nodup_append,ih,List.pairwise_cons]
  constructor
  ·rintro ⟨h1,⟨h2,h3⟩,h4⟩
   refine⟨fun x hx=>?_,fun b hb y hy hz=>h4 y hy y (List.mem_flatMap.mpr ⟨b,hb,hz⟩) rfl,h3⟩
   rcases List.mem_cons.mp hx with rfl|hx
   ·exact h1
   ·exact h2 x hx
  ·rintro ⟨h1,h2,h3⟩
   refine⟨h1 a mem_cons_self,⟨fun x hx=>h1 x (mem_cons_of_mem _ hx),h3⟩,fun y hy z hz e=>?_⟩
   obtain⟨b,hb,hz⟩:=List.mem_flatMap.mp hz
   exact h2 b hb y hy (e▸hz)
theorem qr(q:Bx):(cellsOf q).Nodup:=by
 unfold cellsOf
 rw[xB]
 refine⟨fun x _=>List.Pairwise.map _ (fun a b h e=>h (by injection e)) Bl,?_⟩
 refine List.Pairwise.imp (fun {a b} h y hy hz=>?_) (Bl (a:=q.l) (b:=q.r))
 obtain⟨j,_,rfl⟩:=List.mem_map.mp hy
 obtain⟨k,_,e⟩:=List.mem_map.mp hz
 injection e with e1 e2
 exact h e1.symm
noncomputable def cells(qs:List Bx):List (Nat×Nat):=qs.flatMap cellsOf
noncomputable def Apart(q p:Bx):Prop:=∀i j,q.has i j->¬ p.has i j
theorem Apart.symm{q p:Bx}(h:Apart q p):Apart p q:=fun i j h1 h2=>h i j h2 h1
theorem pN{qs:List Bx}:(cells qs).Nodup↔qs.Pairwise Apart:=by
 unfold cells
 rw[xB]
 constructor
 ·rintro ⟨_,h⟩
  exact h.imp fun {a b} z i j h1 h2=>z (i,j) (bN.mpr h1) (bN.mpr h2)
 ·intro h
  exact⟨fun q _=>qr q,h.imp fun {a b} z y h1 h2=>z y.1 y.2 (bN.mp h1) (bN.mp h2)⟩
theorem jC{qs:List Bx}{i j:Nat}:(i,j)∈cells qs↔∃q∈qs,q.has i j:=by
 unfold cells
 simp only[List.mem_flatMap,bN]
noncomputable def qo(qs:List Bx)(C R:Nat):Bool:=decide (cells qs).Nodup&&decide ((cells qs).length=C*R)
theorem sX{C R:Nat}:(cellsOf ⟨0,C,0,R⟩).length=C*R:=by
 unfold cellsOf
 rw[List.length_flatMap]
 have:(fun i:Nat=>((run 0 R).map fun j=>(i,j)).length)=fun _=>R:=by funext i;rw[length_map,qc];rfl
 simp only[this,List.map_const',qc,List.sum_replicate_nat,Nat.sub_zero]
theorem Ee{qs:List Bx}{C R:Nat}(hin:∀q∈qs,q.r<=C/\q.t<=R):qo qs C R=true↔qs.Pairwise Apart/\∀i j,i<C->j<R->∃q∈qs,q.has i j:=by
 unfold qo
 rw[and_eq_true,decide_eq_true_iff,decide_eq_true_iff,pN]
 have sub:∀x∈cells qs,x∈cellsOf ⟨0,C,0,R⟩:=fun x hx=>by
  obtain⟨q,hq,h⟩:=jC.mp hx
  obtain⟨h1,h2⟩:=hin q hq
  exact bN.mpr ⟨zero_le _,lt_of_lt_of_le h.2.1 h1,zero_le _,lt_of_lt_of_le h.2.2.2 h2⟩
 constructor
 ·rintro ⟨h1,h2⟩
  refine⟨h1,fun i j hi hj=>?_⟩
  have:=NO (pN.mpr h1) sub (by rw[sX,h2];exact le_refl _) (x:=(i,j)) (bN.mpr ⟨zero_le _,hi,zero_le _,hj⟩)
  exact jC.mp this
 ·rintro ⟨h1,h2⟩
  refine⟨h1,?_⟩
  rw[<- sX]
  refine Rx (pN.mpr h1) (qr _) fun x=>⟨sub x,fun hx=>?_⟩
  obtain⟨_,hi,_,hj⟩:=bN.mp hx
  exact jC.mpr (h2 x.1 x.2 hi hj)
structure iV(qs:List Bx)(C R:Nat):Prop where
 fits:∀q∈qs,q.l<q.r/\q.r<=C/\q.b<q.t/\q.t<=R
 apart:qs.Pairwise Apart
 all:∀i j,i<C->j<R->∃q∈qs,q.has i j
theorem iV.perm{qs ps:List Bx}{C R:Nat}(h:iV qs C R)(p:ps.Perm qs):iV ps C R:=
 ⟨fun q hq=>h.fits q (p.mem_iff.mp hq),(p.pairwise_iff fun z=>z.symm).mpr h.apart,fun i j hi hj=>by
  obtain⟨q,hq,z⟩:=h.all i j hi hj
  exact⟨q,p.mem_iff.mpr hq,z⟩⟩
end GR
namespace GR
noncomputable abbrev Up(A:List Nat):Prop:=A.Pairwise (· < ·)
theorem dc{α:Type}[BEq α][LawfulBEq α]{A:List α}{a:α}(h:a∈A):A.idxOf a<A.length:=List.idxOf_lt_length_iff.mpr h
theorem yC{α:Type}[BEq α][LawfulBEq α]{A:List α}{a:α}(h:a∈A):A[A.idxOf a]'(dc h)=a:=List.getElem_idxOf (dc h)
theorem Mb{A:List Nat}(hA:Up A){a i:Nat}(ha:a∈A)(hi:i<A.length):A.idxOf a<=i↔a<=A[i]:=by
 have e:=yC ha
 constructor
 ·intro h
  rcases lt_or_eq_of_le h with h|h
  ·have:=List.pairwise_iff_getElem.mp hA _ _ (dc ha) hi h
   omega
  ·have:A[A.idxOf a]'(dc ha)=A[i]:=by congr 1
   omega
 ·intro h
  rcases lt_or_ge i (A.idxOf a) with z|z
  ·have:=List.pairwise_iff_getElem.mp hA _ _ hi (dc ha) z
   omega
  ·exact z
theorem Oe{A:List Nat}(hA:Up A){a i:Nat}(ha:a∈A)(hi:i<A.length):i<A.idxOf a↔A[i]<a:=by
 have:=Mb hA ha hi
 omega
noncomputable def cb(A B:List Nat)(q:Bx):Bx:=⟨A.idxOf q.l,A.idxOf q.r,B.idxOf q.b,B.idxOf q.t⟩
structure OnG(A B:List Nat)(q:Bx):Prop where
 l:q.l∈A
 r:q.r∈A
 b:q.b∈B
 t:q.t∈B
theorem Hf{A B:List Nat}(hA:Up A)(hB:Up B){q:Bx}(g:OnG A B q){i j:Nat}(hi:i<A.length)(hj:j<B.length):(cb A B q).has i j↔q.has A[i] B[j]:=by
 unfold Bx.has cb
 rw[Mb hA g.l hi,Oe hA g.r hi,Mb hB g.b hj,Oe hB g.t hj]
theorem Qn{A B:List Nat}(hA:Up A)(hB:Up B){qs:List Bx}{C R:Nat}(hc:iV qs C R)(g:∀q∈qs,OnG A B q)(hAC:∀a∈A,a<=C)(hBR:∀b∈B,b<=R):qo (qs.map (cb A B)) (A.length-1) (B.length-1)=true:=by
 refine (Ee ?_).mpr ⟨?_,?_⟩
 ·intro q hq
  obtain⟨q,hq2,rfl⟩:=List.mem_map.mp hq
  have a:=dc (g q hq2).r
  have b:=dc (g q hq2).t
  unfold cb
  dsimp only
  omega
 ·rw[pairwise_map]
  refine List.Pairwise.imp_of_mem (fun {q p} hq hp h i j h1 h2=>?_) hc.apart
  have gq:=g q hq
  have hi:i<A.length:=Nat.lt_trans h1.2.1 (dc gq.r)
  have hj:j<B.length:=Nat.lt_trans h1.2.2.2 (dc gq.t)
  exact h _ _ ((Hf hA hB gq hi hj).mp h1) ((Hf hA hB (g p hp) hi hj).mp h2)
 ·intro i j hi hj
  have a1:A[i]<A[i+1]:=List.pairwise_iff_getElem.mp hA _ _ ∅ ∅ ∅
  have a2:=hAC A[i+1] (getElem_mem _)
  have b1:B[j]<B[j+1]:=List.pairwise_iff_getElem.mp hB _ _ ∅ ∅ ∅
  have b2:=hBR B[j+1] (getElem_mem _)
  obtain⟨q,hq,h⟩:=hc.all A[i] B[j] ∅ ∅
  exact⟨_,mem_map_of_mem hq,(Hf hA hB (g q hq) ∅ ∅).mpr h⟩
theorem iV.ends{qs:List Bx}{C R:Nat}(h:iV qs C R)(hC:0<C)(hR:0<R):(∃q∈qs,q.l=0)/\(∃q∈qs,q.r=C)/\(∃q∈qs,q.b=0)/\(∃q∈qs,q.t=R):=by
 obtain⟨q,hq,h1⟩:=h.all 0 0 hC hR
 obtain⟨p,hp,h2⟩:=h.all (C-1) (R-1) ∅ ∅
 have f:=h.fits p hp
 refine⟨⟨q,hq,?_⟩,⟨p,hp,?_⟩,⟨q,hq,?_⟩,⟨p,hp,?_⟩⟩<;>unfold Bx.has at h1 h2<;>omega
structure Laid(qs:List Bx)(C R x y:Nat):Prop where
 fits:∀q∈qs,q.l<q.r/\q.r<=C/\q.b<q.t/\q.t<=R/\q.b<=y
 apart:qs.Pairwise Apart
 below:∀i j,i<C->j<y->∃q∈qs,q.has i j
 before:∀i,i<x->i<C->∃q∈qs,q.has i y
theorem Laid.nil{C R:Nat}:Laid [] C R 0 0:=⟨fun _ h=>absurd h not_mem_nil,.nil,fun _ _ _ h=>absurd h (not_lt_zero _),fun _ h=>absurd h (not_lt_zero _)⟩
theorem Laid.row{qs:List Bx}{C R y:Nat}(h:Laid qs C R C y):Laid qs C R 0 (y+1):=
 ⟨fun q hq=>by have:=h.fits q hq;omega,h.apart,fun i j hi hj=>by
  rcases lt_or_eq_of_le (le_of_lt_succ hj) with z|z
  ·exact h.below i j hi z
  ·rw[z];exact h.before i hi hi,fun _ h=>absurd h (not_lt_zero _)⟩
theorem Laid.met{qs:List Bx}{C R x y:Nat}(h:Laid qs C R x y)(m:∃q∈qs,q.has x y):Laid qs C R (x+1) y:=
 ⟨h.fits,h.apart,h.below,fun i hi hc=>by
  rcases lt_or_eq_of_le (le_of_lt_succ hi) with z|z
  ·exact h.before i z hc
  ·rw[z];exact m⟩
theorem Laid.put{qs:List Bx}{C R x y w k:Nat}(h:Laid qs C R x y)(hw:0<w)(hk:0<k)(hx:x+w<=C)(hy:y+k<=R)(free:∀i,x<=i->i<x+w->∀q∈qs,¬ q.has i y):Laid (qs++[⟨x,x+w,y,y+k⟩]) C R (x+1) y:=by
 refine⟨fun q hq=>?_,?_,fun i j hi hj=>?_,fun i hi hc=>?_⟩
 ·rcases List.mem_append.mp hq with hq|hq
  ·exact h.fits q hq
  ·obtain rfl:=List.mem_singleton.mp hq
   dsimp only
   omega
 ·refine List.pairwise_append.mpr ⟨h.apart,List.pairwise_singleton _ _,fun a ha b hb i j h1 h2=>?_⟩
  obtain rfl:=List.mem_singleton.mp hb
  have f:=h.fits a ha
  unfold Bx.has at h1 h2
  dsimp only at h2
  exact free i h2.1 h2.2.1 a ha ⟨h1.1,h1.2.1,∅,∅⟩
 ·obtain⟨q,hq,z⟩:=h.below i j hi hj
  exact⟨q,mem_append_left _ hq,z⟩
 ·rcases lt_or_eq_of_le (le_of_lt_succ hi) with z|z
  ·obtain⟨q,hq,z⟩:=h.before i z hc
   exact⟨q,mem_append_left _ hq,z⟩
  ·exact⟨_,mem_append_right _ mem_cons_self,by subst z;unfold Bx.has;dsimp only;omega⟩
theorem Laid.done{qs:List Bx}{C R:Nat}(h:Laid qs C R 0 R):iV qs C R:=⟨fun q hq=>by have:=h.fits q hq;omega,h.apart,h.below⟩
end GR
namespace L2.DL
open PySem PySem.Spec PyProof.Rows
inductive Box where
 |dict (kvs:List (List Int×PyData))
 |set (ks:List (List Int))
structure Mu where
 l:Addr->Option (List PyData)
 b:Addr->Option Box
noncomputable instance:CoeFun Mu fun _=>Addr->Option (List PyData):=⟨Mu.l⟩
noncomputable abbrev PQ:=PySem.W.Frag->V->Mu->Hp->Prop
inductive D where
 |v (x:PyData)
 |m (a:Addr)
 |s (ns:List Int)
  /-- an object that is handed on -/
 |o (a:Addr)
  /-- a dict or a set -/
 |b (a:Addr)
  /-- a thing of which something is known that stays -/
 |q (P:PQ)
noncomputable abbrev Rho:=List (Option D)
noncomputable def aD(Z:Mu)(a:Addr)(ds:List PyData):Mu:=⟨fun b=>if b=a then some ds else Z b,Z.b⟩
theorem aE{Z:Mu}{a:Addr}{ds}:aD Z a ds a=some ds:=if_pos rfl
theorem aV{Z:Mu}{a b:Addr}{ds}(h:b≠a):aD Z a ds b=Z b:=if_neg h
noncomputable def bo(Z:Mu)(a:Addr)(c:Box):Mu:=⟨Z.l,fun b=>if b=a then some c else Z.b b⟩
theorem ba{Z:Mu}{a:Addr}{c}:(bo Z a c).b a=some c:=if_pos rfl
theorem bW{Z:Mu}{a b:Addr}{c}(h:b≠a):(bo Z a c).b b=Z.b b:=if_neg h
theorem Mu.eq{Z ν:Mu}(h1:∀b,Z b=ν b)(h2:∀b,Z.b b=ν.b b):Z=ν:=by
 obtain⟨l,b⟩:=Z;obtain⟨l',b'⟩:=ν
 cases (funext h1:l=l');cases (funext h2:b=b');rfl
theorem JS{Z:Mu}{a:Addr}{c d}:bo (bo Z a c) a d=bo Z a d:=Mu.eq (fun _=>rfl) fun b=>by
 by_cases h:b=a
 ·subst h;rw[ba,ba]
 ·rw[bW h,bW h,bW h]
theorem ig{Z:Mu}{a:Addr}{ds es}:aD (aD Z a ds) a es=aD Z a es:=Mu.eq (fun b=>by
 by_cases h:b=a
 ·subst h;rw[aE,aE]
 ·rw[aV h,aV h,aV h]) fun _=>rfl
mutual
inductive Rp(K:PySem.W.Frag)(Z:Mu)(H:Hp):PyData->V->Prop
 |none:Rp K Z H .none .non
 |bool (b:Bool):Rp K Z H (.bool b) (.bl b)
 |int (i:Int):Rp K Z H (.int i) (.int i)
 |str (x:Str):Rp K Z H (.str x) (.str x)
 |list {a:Addr} {xs:List V} {ds:List PyData}:H a=some (.lst xs)->Z a=Option.none->RpL K Z H ds xs->Rp K Z H (.list ds) (.ref a)
 |tuple {a:Addr} {xs:List V} {ds:List PyData}:SqT K H a xs->RpL K Z H ds xs->Rp K Z H (.tuple ds) (.ref a)
inductive RpL(K:PySem.W.Frag)(Z:Mu)(H:Hp):List PyData->List V->Prop
 |nil:RpL K Z H [] []
 |cons {d:PyData} {v:V} {ds:List PyData} {vs:List V}:Rp K Z H d v->RpL K Z H ds vs->RpL K Z H (d::ds) (v::vs)
end
noncomputable def NT:HO->Prop
 |.tbl _=>False
 |.raw _=>False
 |_=>True
structure Ext(K:PySem.W.Frag)(Z:Mu)(H:Hp)(U:Mu)(H':Hp):Prop where
 keep:∀b o,H b=some o->Z b=none->NT o->H' b=some o
 tb:∀b ps,H b=some (.tbl ps)->Z b=none->∃ps',H' b=some (.tbl ps')
 dom:∀b ds,Z b=some ds->∃es,U b=some es
 fresh:∀b,Z b=none->(H b≠none\/K.lookup b≠none)->U b=none
 st:∀b o,H b=some o->Z b=none->∃o',H' b=some o'
 bx:∀b c,Z.b b=some c->∃c',U.b b=some c'
noncomputable def RpD(K:PySem.W.Frag)(Z:Mu)(H:Hp):D->V->Prop
 |.v x,u=>Rp K Z H x u
 |.m a,u=>u = .ref a/\∃ds,Z a=some ds
 |.s ns,u=>∃a,u = .ref a/\SqL K H a (ns.map V.int)/\Z a=none
 |.o a,u=>u = .ref a
 |.b a,u=>u = .ref a/\∃c,Z.b a=some c
 |.q P,u=>∀U H',Ext K Z H U H'->P K u U H'
noncomputable def codeAt(c:Addr)(q:Str)(h:Heap):Prop:=∃o vs t,h.get? c=some o/\o.data = .fields vs/\vs[1]? = some (.str q t)
noncomputable abbrev NR(q:Str):Str:=(q ++ ".<locals>.") ++ "<lambda>"
noncomputable def RQ(H:Hp)(P:Addr)(q:Str):Prop:=∃ps:Array Value,H P=some (.tbl ps)/\TriplesOk ps.toList/\∀pos cv,codeAmong pos ps.toList=some cv->∃c,cv = .ref c/\H c=some (.ext (codeAt c (NR q)))
noncomputable def DB(K:PySem.W.Frag)(H:Hp):Prop:=∀c o P q,K.lookup c=some o->dZ o=some (P,q)->RQ H P q
noncomputable abbrev hI(ks:List Int):Int:=reduceHash (Builtin.Tuple.tupleHashOf (ks.map hashInt))
noncomputable def gH(K:PySem.W.Frag)(Z:Mu)(H:Hp)(kvs:List (List Int×PyData))(xs:List (List Int×Addr×Value)):Prop:=
 Paired (fun (p:List Int×PyData) (q:List Int×Addr×Value)=>p.1=q.1/\SqT K H q.2.1 (p.1.map V.int)/\∃v,Rp K Z H p.2 v/\RelV v q.2.2) kvs xs
noncomputable def iM(K:PySem.W.Frag)(Z:Mu)(H:Hp):Box->Obj->Prop
 |.dict kvs,o=>kvs.length<=sizeLine/\o.ExactDict/\∃es ep,∃xs:List (List Int×Addr×Value),o.data = .dict es ep/\es.toList=xs.map (fun x=>⟨hI x.1,.ref x.2.1,x.2.2⟩)/\(xs.map (·.1)).Nodup/\gH K Z H kvs xs
 |.set ks,o=>o.ExactSet/\∃(L:ST.Ln Value) (ep:Nat) (t:SetTable),o.data = .set (L.map (·.2)).toArray ep t/\ST.Tab t L/\L.length*5<t.mask*3/\L.length=ks.length /\
   (∀x∈L,∃k q,x.2.2 = .ref q/\SqT K H q (k.map V.int)/\x.2.1=hI k/\k∈ks)/\∀k∈ks,∃x∈L,∃q,x.2.2 = .ref q/\SqT K H q (k.map V.int)
structure bJ(K:PySem.W.Frag)(Z:Mu)(H:Hp):Prop where
 lst:∀a ds,Z a=some ds->∃xs,H a=some (.lst xs)/\RpL K Z H ds xs
 tab:DB K H
 box:∀a c,Z.b a=some c->(a==sysModules)=false/\∃o,H a=some (.raw o)/\iM K Z H c o
noncomputable instance {K:PySem.W.Frag} {Z:Mu} {H:Hp}:CoeFun (bJ K Z H) fun _=>∀a ds,Z a=some ds->∃xs,H a=some (.lst xs)/\RpL K Z H ds xs:=⟨bJ.lst⟩
theorem DB.of{K:PySem.W.Frag}{H H1:Hp}(t:DB K H)(s:∀b o,H b=some o->(∀xs,o≠.lst xs)->(∀ob,o≠.raw ob)->H1 b=some o):DB K H1:=fun c o P q h1 h2=>by
 obtain⟨ps,a1,a2,a3⟩:=t c o P q h1 h2
 exact⟨ps,s _ _ a1 (fun _ z=>nomatch z) (fun _ z=>nomatch z),a2,fun pos cv e=>let ⟨c,q1,q2⟩:=a3 pos cv e;⟨c,q1,s _ _ q2 (fun _ z=>nomatch z) (fun _ z=>nomatch z)⟩⟩
noncomputable def iQ(K:PySem.W.Frag)(Z:Mu)(H:Hp)(ρ:Rho)(σ:St):Prop:=
 ρ.length=σ.length/\∀(i:Nat) (d:D),ρ[i]? = some (some d)->∃u,σ[i]? = some (some u)/\RpD K Z H d u
structure St0(K:PySem.W.Frag)(H:Hp)(ρ:Rho)(Z:Mu)(σ:St):Prop where
 mu:bJ K Z H
 rho:iQ K Z H ρ σ
section
variable {K:PySem.W.Frag}{Z ad am:Mu}{H H1 H2:Hp}
theorem Ext.refl:Ext K Z H Z H:=⟨fun _ _ h _ _=>h,fun _ ps h _=>⟨ps,h⟩,fun _ ds h=>⟨ds,h⟩,fun _ h _=>h,fun _ o h _=>⟨o,h⟩,fun _ c h=>⟨c,h⟩⟩
theorem Ext.trans(a:Ext K Z H ad H1)(b:Ext K ad H1 am H2):Ext K Z H am H2 where
 keep:=fun c o h n t=>b.keep c o (a.keep c o h n t) (a.fresh c n (.inl (by rw[h];exact fun z=>nomatch z))) t
 tb:=fun c ps h n=>by
  obtain⟨ps1,h1⟩:=a.tb c ps h n
  exact b.tb c ps1 h1 (a.fresh c n (.inl (by rw[h];exact fun z=>nomatch z)))
 dom:=fun c ds h=>let ⟨es,q⟩:=a.dom c ds h;b.dom c es q
 fresh:=fun c n h=>by
  refine b.fresh c (a.fresh c n h) ?_
  rcases h with h|h
  ·cases q:H c with
   |none=>exact absurd q h
   |some o=>
    obtain⟨o',h'⟩:=a.st c o q n
    exact .inl (by rw[h'];exact fun z=>nomatch z)
  ·exact .inr h
 st:=fun c o h n=>by
  obtain⟨o',h'⟩:=a.st c o h n
  exact b.st c o' h' (a.fresh c n (.inl (by rw[h];exact fun z=>nomatch z)))
 bx:=fun c x h=>let ⟨x',q⟩:=a.bx c x h;b.bx c x' q
theorem Ext.of_same(s:Am H H1):Ext K Z H Z H1:=⟨fun b o h _ _=>s b o h,fun b ps h _=>⟨ps,s b _ h⟩,fun _ ds h=>⟨ds,h⟩,fun _ h _=>h,fun b o h _=>⟨o,s b o h⟩,fun _ c h=>⟨c,h⟩⟩
theorem bJ.not{a:Addr}{o:HO}(ok:bJ K Z H)(h:H a=some o)(n:∀xs,o≠.lst xs):Z a=none:=by
 cases q:Z a with
 |none=>rfl
 |some ds=>
  obtain⟨ys,e,_⟩:=ok a ds q
  rw[h] at e
  exact absurd (Option.some.inj e) (n ys)
theorem bJ.free{a:Addr}(ok:bJ K Z H)(h:H a=none):Z a=none:=by
 cases q:Z a with
 |none=>rfl
 |some ds=>
  obtain⟨ys,e,_⟩:=ok a ds q
  rw[h] at e;cases e
theorem mJ{a:Addr}{xs:List V}(ok:bJ K Z H)(e:Ext K Z H ad H1)(h:SqT K H a xs):SqT K H1 a xs:=by
 rcases h with (h|⟨o,h⟩)|h
 ·exact .inl (.inl (e.keep _ _ h (ok.not h fun _ z=>nomatch z) trivial))
 ·exact .inl (.inr ⟨o,e.keep _ _ h (ok.not h fun _ z=>nomatch z) trivial⟩)
 ·exact .inr h
theorem HC{a:Addr}{xs:List V}(e:Ext K Z H ad H1)(h:SqL K H a xs)(n:Z a=none):SqL K H1 a xs/\ad a=none:=by
 rcases h with (h|⟨o,h⟩)|h
 ·exact⟨.inl (.inl (e.keep _ _ h n trivial)),e.fresh _ n (.inl (by rw[h];exact fun z=>nomatch z))⟩
 ·exact⟨.inl (.inr ⟨o,e.keep _ _ h n trivial⟩),e.fresh _ n (.inl (by rw[h];exact fun z=>nomatch z))⟩
 ·obtain⟨o,its,k,hk,r⟩:=id h
  exact⟨.inr h,e.fresh _ n (.inr (by rw[hk];exact fun z=>nomatch z))⟩
mutual
theorem Rp.ext{d:PyData}{u:V}(ok:bJ K Z H)(e:Ext K Z H ad H1):Rp K Z H d u->Rp K ad H1 d u
 |.none=>.none
 |.bool b=>.bool b
 |.int i=>.int i
 |.str x=>.str x
 |.list h n r=>.list (e.keep _ _ h n trivial) (e.fresh _ n (.inl (by rw[h];exact fun z=>nomatch z))) (RpL.ext ok e r)
 |.tuple h r=>.tuple (mJ ok e h) (RpL.ext ok e r)
theorem RpL.ext{ds:List PyData}{us:List V}(ok:bJ K Z H)(e:Ext K Z H ad H1):RpL K Z H ds us->RpL K ad H1 ds us
 |.nil=>.nil
 |.cons h r=>.cons (Rp.ext ok e h) (RpL.ext ok e r)
end
theorem RpD.ext{d:D}{u:V}(ok:bJ K Z H)(e:Ext K Z H ad H1)(r:RpD K Z H d u):RpD K ad H1 d u:=by
 cases d with
 |v x=>exact Rp.ext ok e r
 |m a=>obtain⟨h,ds,q⟩:=r;exact⟨h,e.dom a ds q⟩
 |s ns=>obtain⟨a,h,q,n⟩:=r;exact⟨a,h,(HC e q n).1,(HC e q n).2⟩
 |o a=>exact r
 |b a=>obtain⟨h,c,q⟩:=r;exact⟨h,e.bx a c q⟩
 |q P=>exact fun U H' e'=>r U H' (e.trans e')
theorem iM.ext{c:Box}{o:Obj}(ok:bJ K Z H)(e:Ext K Z H ad H1)(r:iM K Z H c o):iM K ad H1 c o:=by
 cases c with
 |dict kvs=>
  obtain⟨h1,h2,es,ep,xs,h3,h4,h5,h6⟩:=r
  exact⟨h1,h2,es,ep,xs,h3,h4,h5,Paired.Nj h6 fun p q ⟨z1,z2,v,z3,z4⟩=>⟨z1,mJ ok e z2,v,Rp.ext ok e z3,z4⟩⟩
 |set ks=>
  obtain⟨h1,L,ep,t,h2,h3,h4,h5,h6,h7⟩:=r
  exact⟨h1,L,ep,t,h2,h3,h4,h5,fun x hx=>let ⟨k,q,z1,z2,z3⟩:=h6 x hx;⟨k,q,z1,mJ ok e z2,z3⟩,fun k hk=>let ⟨x,hx,q,z1,z2⟩:=h7 k hk;⟨x,hx,q,z1,mJ ok e z2⟩⟩
theorem bJ.Io{a:Addr}(ok:bJ K Z H)(h:H a=none):Z.b a=none:=by
 cases q:Z.b a with
 |none=>rfl
 |some c=>
  obtain⟨_,ob,e,_⟩:=ok.box a c q
  rw[h] at e;cases e
theorem iQ.ext{ρ:Rho}{σ:St}(ok:bJ K Z H)(e:Ext K Z H ad H1)(r:iQ K Z H ρ σ):iQ K ad H1 ρ σ:=
 ⟨r.1,fun i d h=>let ⟨u,h1,h2⟩:=r.2 i d h;⟨u,h1,h2.ext ok e⟩⟩
theorem RpL.length{ds:List PyData}{us:List V}:RpL K Z H ds us->ds.length=us.length
 |.nil=>rfl
 |.cons _ r=>congrArg (· + 1) (RpL.length r)
theorem RpL.get{ds:List PyData}{us:List V}:∀{i:Nat} {d:PyData},RpL K Z H ds us->ds[i]? = some d->∃u,us[i]? = some u/\Rp K Z H d u
 |_,_,.nil,h=>by simp at h
 |0,_,.cons r _,h=>by simp at h;subst h;exact⟨_,rfl,r⟩
 |i+1,d,.cons _ t,h=>by
  obtain⟨u,h1,h2⟩:=RpL.get (i:=i) (d:=d) t (by simpa using h)
  exact⟨u,by simpa using h1,h2⟩
theorem RpL.append{ds es:List PyData}{us ws:List V}:RpL K Z H ds us->RpL K Z H es ws->RpL K Z H (ds++es) (us++ws)
 |.nil,s=>s
 |.cons r t,s=>.cons r (RpL.append t s)
theorem RpL.set{ds:List PyData}{us:List V}{d:PyData}{u:V}(q:Rp K Z H d u):∀(i:Nat),RpL K Z H ds us->RpL K Z H (ds.set i d) (us.set i u)
 |_,.nil=>.nil
 |0,.cons _ t=>.cons q t
 |i+1,.cons r t=>.cons r (RpL.set q i t)
theorem Gw{ds:List PyData}{us:List V}{i:Int}{d:PyData}(r:RpL K Z H ds us)(h:atI ds i=some d):∃u,atI us i=some u/\Rp K Z H d u:=by
 unfold atI at h ⊢
 rw[<- r.length]
 cases q:ixN ds.length i with
 |none=>rw[q] at h;cases h
 |some j=>
  rw[q] at h
  exact r.get h
noncomputable abbrev DK:=D->Mu->Prop
noncomputable abbrev DTE:=Rho->Mu->DK->Prop
noncomputable abbrev DTT:=Rho->Mu->(Bool->Mu->Prop)->Prop
noncomputable abbrev DTA:=Rho->Mu->(List D->Mu->Prop)->Prop
structure AX where
 nx:Rho->Mu->Prop
 rt:DK
 bk:Rho->Mu->Prop:=fun _ _=>False
 ct:Rho->Mu->Prop:=fun _ _=>False
noncomputable abbrev DTS:=AX->Rho->Mu->Prop
inductive j7(K:PySem.W.Frag)(Z:Mu)(H:Hp):List D->List V->Prop
 |nil:j7 K Z H [] []
 |cons {d:D} {u:V} {ds:List D} {us:List V}:RpD K Z H d u->j7 K Z H ds us->j7 K Z H (d::ds) (u::us)
theorem j7.ext{ds:List D}{us:List V}(ok:bJ K Z H)(e:Ext K Z H ad H1):j7 K Z H ds us->j7 K ad H1 ds us
 |.nil=>.nil
 |.cons h r=>.cons (h.ext ok e) (j7.ext ok e r)
theorem j7.length{ds:List D}{us:List V}:j7 K Z H ds us->ds.length=us.length
 |.nil=>rfl
 |.cons _ r=>congrArg (· + 1) (j7.length r)
end
noncomputable def tP(K:PySem.W.Frag)(t:TE)(td:DTE):Prop:=∀(σ:St) (H:Hp) (ρ:Rho) (Z:Mu) (Qd:DK) (Q:VK),St0 K H ρ Z σ->td ρ Z Qd ->
 (∀d u U H',Ext K Z H U H'->St0 K H' ρ U σ->RpD K U H' d u->Qd d U->Q u H')->t σ H Q
noncomputable def Kh(K:PySem.W.Frag)(t:TT)(td:DTT):Prop:=∀(σ:St) (H:Hp) (ρ:Rho) (Z:Mu) (Qd:Bool->Mu->Prop) (Q:Bool->Hp->Prop),St0 K H ρ Z σ->td ρ Z Qd ->
 (∀b U H',Ext K Z H U H'->St0 K H' ρ U σ->Qd b U->Q b H')->t σ H Q
noncomputable def N1(K:PySem.W.Frag)(n:Nat)(t:TA)(td:DTA):Prop:=∀(σ:St) (H:Hp) (ρ:Rho) (Z:Mu) (Qd:List D->Mu->Prop) (Q:List V->Hp->Prop),St0 K H ρ Z σ->td ρ Z Qd ->
 (∀ds us U H',Ext K Z H U H'->St0 K H' ρ U σ->j7 K U H' ds us->ds.length=n->Qd ds U->Q us H')->t σ H Q
noncomputable def A0(K:PySem.W.Frag)(t:TS)(td:DTS):Prop:=∀(σ:St) (H:Hp) (ρ:Rho) (Z:Mu) (Dd:AX) (De:Ends),St0 K H ρ Z σ->td Dd ρ Z ->
 (∀bn be U H',Ext K Z H U H'->St0 K H' be U bn->Dd.nx be U->De.nx bn H') ->
 (∀d u U H',Ext K Z H U H'->bJ K U H'->RpD K U H' d u->Dd.rt d U->De.rt u H') ->
 (∀bn be U H',Ext K Z H U H'->St0 K H' be U bn->Dd.bk be U->De.bk bn H') ->
 (∀bn be U H',Ext K Z H U H'->St0 K H' be U bn->Dd.ct be U->De.ct bn H')->t De σ H
noncomputable def DE(X:Cx)(e:Expr)(td:DTE):Prop:=∃t,PE X e t/\tP X.K t td
noncomputable def DT(X:Cx)(e:Expr)(td:DTT):Prop:=∃t,PT X e t/\Kh X.K t td
noncomputable def DA(X:Cx)(es:List Expr)(td:DTA):Prop:=∃t,PA X es t/\N1 X.K es.length t td
noncomputable def DS(X:Cx)(st:Stmt)(td:DTS):Prop:=∃t,PS X st t/\A0 X.K t td
noncomputable def DSs(X:Cx)(st:List Stmt)(td:DTS):Prop:=∃t,PSs X st t/\A0 X.K t td
section
variable {X:Cx}{a b c:Expr}{ta tb tc:DTE}{pos:Pos}
noncomputable def ah(i:Nat):DTE:=fun ρ Z Q=>match ρ[i]? with
 |some (some d)=>Q d Z
 |_=>False
noncomputable def dC(x:PyData):DTE:=fun _ Z Q=>Q (.v x) Z
theorem Lq{K:PySem.W.Frag}(i:Nat):tP K (Qy i) (ah i):=by
 intro σ H ρ Z Qd Q S h k
 unfold ah at h
 split at h
 ·rename_i d e
  obtain⟨u,h1,h2⟩:=S.rho.2 i d e
  exact⟨u,h1,k d u Z H .refl S h2 h⟩
 ·exact h.elim
theorem dv(i:Nat){x:Str}{pos:Pos}(hN:X.N[i]? = some x:=by rfl)(hv:Vis X.env.scope x:=by first|exact Or.inl rfl|exact Or.inr (Or.inl rfl)|exact Or.inr (Or.inr rfl))(hd:(x==("__debug__":Str))=false:=by decide)
  (hcd:(x==("__classdict__":Str))=false:=by decide):DE X (.Name x pos) (ah i):=⟨_,PF hN hv hd hcd,Lq i⟩
theorem Cm{K:PySem.W.Frag}{x:PyData}{u:V}(h:∀Z H,bJ K Z H->Rp K Z H x u):tP K (tC u) (dC x):=fun σ H ρ Z Qd Q S q k=>k (.v x) u Z H .refl S (h Z H S.mu) q
theorem ai{i j pos}:DE X (.Constant (.int i) j pos) (dC (.int i)):=⟨_,Ow,Cm fun _ _ _=>.int i⟩
theorem d8{i j pos}:DE X (.Constant (.bool i) j pos) (dC (.bool i)):=⟨_,Rl,Cm fun _ _ _=>.bool i⟩
theorem FR{j pos}:DE X (.Constant .none j pos) (dC .none):=⟨_,OH,Cm fun _ _ _=>.none⟩
theorem H0{x:Str}{d:PyData}{u:V}{w:Value}{pos:Pos}(hg:Gl X x)(hm:X.mg x=some w)(r:RelV u w)(h:∀Z H,bJ X.K Z H->Rp X.K Z H d u)(hd:(x==("__debug__":Str))=false:=by decide):DE X (.Name x pos) (dC d):=
 ⟨_,Nb hg hm r hd,Cm h⟩
noncomputable def jY(K:PySem.W.Frag)(rr:R2)(r:D->D->Mu->DK->Prop):Prop:=∀(x y:D) (ux uy:V) (H:Hp) (Z:Mu) (Qd:DK) (Q:VK),bJ K Z H->RpD K Z H x ux->RpD K Z H y uy->r x y Z Qd ->
 (∀d u U H',Ext K Z H U H'->bJ K U H'->RpD K U H' d u->Qd d U->Q u H')->rr ux uy H Q
noncomputable def dOp(r:D->D->Mu->DK->Prop)(ta tb:DTE):DTE:=fun ρ Z Q=>ta ρ Z fun x ad=>tb ρ ad fun y am=>r x y am Q
theorem w8{K:PySem.W.Frag}{rr:R2}{r}{t1 t2:TE}(lo:jY K rr r)(la:tP K t1 ta)(lb:tP K t2 tb):tP K (tOp rr t1 t2) (dOp r ta tb):=by
 intro σ H ρ Z Qd Q S h k
 refine la σ H ρ Z _ _ S h fun x ux ad H1 e1 S1 rx h1=>?_
 refine lb σ H1 ρ ad _ _ S1 h1 fun y uy am H2 e2 S2 ry h2=>?_
 exact lo x y ux uy H2 am _ _ S2.mu (rx.ext S1.mu e2) ry h2 fun d u U H' e3 ok r q=>k d u U H' (e1.trans (e2.trans e3)) ⟨ok,S2.rho.ext S2.mu e3⟩ r q
theorem xD{op:Operator}{rr:R2}{r}(ho:OpR X (binaryOp op) rr)(lo:jY X.K rr r)(ha:DE X a ta)(hb:DE X b tb):DE X (.BinOp a op b pos) (dOp r ta tb):=by
 obtain⟨t1,p1,l1⟩:=ha
 obtain⟨t2,p2,l2⟩:=hb
 exact⟨_,Rv ho p1 p2,w8 lo l1 l2⟩
theorem d9{op:CmpOp}{rr:R2}{r}(ho:OpR X (compareOp op) rr)(lo:jY X.K rr r)(ha:DE X a ta)(hb:DE X b tb)(hm:behindInMarks op b=false):DE X (.Compare a [op] [b] pos) (dOp r ta tb):=by
 obtain⟨t1,p1,l1⟩:=ha
 obtain⟨t2,p2,l2⟩:=hb
 exact⟨_,MO ho p1 p2 hm,w8 lo l1 l2⟩
noncomputable def dB(t:DTE):DTT:=fun ρ Z Q=>t ρ Z fun d ad=>match d with
 |.v (.bool k)=>Q k ad
 |_=>False
theorem vj{K:PySem.W.Frag}{t:TE}{td:DTE}(l:tP K t td):Kh K (Mo t) (dB td):=by
 intro σ H ρ Z Qd Q S h k
 refine l σ H ρ Z _ _ S h fun d u ad H1 e1 S1 r q=>?_
 split at q
 ·rename_i b
  cases r
  exact⟨b,rfl,k b ad H1 e1 S1 q⟩
 ·exact q.elim
theorem aN{op:CmpOp}{rr:R2}{r}(ho:OpR X (compareOp op) rr)(lo:jY X.K rr r)(ha:DE X a ta)(hb:DE X b tb)(hm:behindInMarks op b=false):DT X (.Compare a [op] [b] pos) (dB (dOp r ta tb)):=by
 obtain⟨t1,p1,l1⟩:=ha
 obtain⟨t2,p2,l2⟩:=hb
 exact⟨_,M8 ho p1 p2 hm,vj (w8 lo l1 l2)⟩
theorem ck{e:Expr}{td:DTE}(h:DE X e td)(he:∀whole,isTrue e X.env whole=(do let v <- whole;standAt e.pos;holding [v] (truthy v)):=by intro _;rfl):DT X e (dB td):=by
 obtain⟨t,p,l⟩:=h
 exact⟨_,Pe p he,vj l⟩
noncomputable def rII(C:Int->Int->Prop)(g:Int->Int->PyData):D->D->Mu->DK->Prop:=fun x y Z Q=>match x,y with
 |.v (.int i),.v (.int j)=>C i j/\Q (.v (g i j)) Z
 |_,_=>False
theorem MF{K:PySem.W.Frag}{C:Int->Int->Prop}{g:Int->Int->V}{gd:Int->Int->PyData}(hg:∀Z H i j,Rp K Z H (gd i j) (g i j)):jY K (rI C g) (rII C gd):=by
 intro x y ux uy H Z Qd Q ok rx ry h k
 unfold rII at h
 split at h
 ·rename_i i j
  cases rx;cases ry
  exact⟨i,j,rfl,rfl,h.1,k (.v _) _ Z H .refl ok (hg Z H i j) h.2⟩
 ·exact h.elim
noncomputable def AH(g:Int->Int->PyData):D->D->Mu->DK->Prop:=fun x y Z Q=>match x,y with
 |.v (.int i),.v (.int j)=>Q (.v (g i j)) Z
 |_,_=>False
theorem LS{K:PySem.W.Frag}{g:Int->Int->V}{gd:Int->Int->PyData}(hg:∀Z H i j,Rp K Z H (gd i j) (g i j)):jY K (rI0 g) (AH gd):=by
 intro x y ux uy H Z Qd Q ok rx ry h k
 unfold AH at h
 split at h
 ·rename_i i j
  cases rx;cases ry
  exact⟨i,j,rfl,rfl,k (.v _) _ Z H .refl ok (hg Z H i j) h⟩
 ·exact h.elim
noncomputable abbrev de(ta tb:DTE):DTE:=dOp (AH fun i j=>.int (i+j)) ta tb
noncomputable abbrev oq(ta tb:DTE):DTE:=dOp (AH fun i j=>.int (i-j)) ta tb
noncomputable abbrev MulOk(i j:Int):Prop:=IntMulOk i j
noncomputable abbrev d3(ta tb:DTE):DTE:=dOp (rII MulOk fun i j=>.int (i*j)) ta tb
noncomputable abbrev zf(ta tb:DTE):DTE:=dOp (rII (fun _ j=>j≠0) fun i j=>.int (i.fmod j)) ta tb
noncomputable abbrev vO(i j:Int):Prop:=j≠0/\Builtin.divisionGoesByPylong i j=false
noncomputable abbrev wQ(ta tb:DTE):DTE:=dOp (rII vO fun i j=>.int (i.fdiv j)) ta tb
noncomputable abbrev OK(ta tb:DTE):DTE:=dOp (rII Qp fun i j=>.int (i ^ j.toNat)) ta tb
theorem Nr:OpR X (binaryOp .Mult) (rI MulOk fun i j=>.int (i*j)):=opI fun _ _ _ _ _ _ _ hc q=>mul_int q hc
theorem M0:OpR X (binaryOp .FloorDiv) (rI vO fun i j=>.int (i.fdiv j)):=opI fun _ _ _ _ _ _ _ hc q=>floordiv_int hc.1 q (.inl hc.2)
theorem bj(ha:DE X a ta)(hb:DE X b tb):DE X (.BinOp a .Add b pos) (de ta tb):=xD PM (LS fun _ _ _ _=>.int _) ha hb
theorem eT(ha:DE X a ta)(hb:DE X b tb):DE X (.BinOp a .Sub b pos) (oq ta tb):=xD OT (LS fun _ _ _ _=>.int _) ha hb
theorem bz(ha:DE X a ta)(hb:DE X b tb):DE X (.BinOp a .Mult b pos) (d3 ta tb):=xD Nr (MF fun _ _ _ _=>.int _) ha hb
theorem k6(ha:DE X a ta)(hb:DE X b tb):DE X (.BinOp a .Mod b pos) (zf ta tb):=xD ML (MF fun _ _ _ _=>.int _) ha hb
theorem jT(ha:DE X a ta)(hb:DE X b tb):DE X (.BinOp a .FloorDiv b pos) (wQ ta tb):=xD M0 (MF fun _ _ _ _=>.int _) ha hb
theorem Ms(ha:DE X a ta)(hb:DE X b tb):DE X (.BinOp a .Pow b pos) (OK ta tb):=xD O5 (MF fun _ _ _ _=>.int _) ha hb
noncomputable abbrev rLt:=AH fun i j=>.bool (decide (i<j))
noncomputable abbrev rLe:=AH fun i j=>.bool (decide (i<=j))
noncomputable abbrev rGt:=AH fun i j=>.bool (decide (j<i))
noncomputable abbrev rGe:=AH fun i j=>.bool (decide (j<=i))
theorem ej{K:PySem.W.Frag}{p:Int->Int->Bool}:jY K (rI0 fun i j=>.bl (p i j)) (AH fun i j=>.bool (p i j)):=LS fun _ _ _ _=>.bool _
noncomputable def qL(ta:DTE):DTE:=fun ρ Z Q=>ta ρ Z fun x ad=>match x with
 |.v (.int i)=>Q (.v (.int (-i))) ad
 |_=>False
theorem ij(ha:DE X a ta):DE X (.UnaryOp .USub a pos) (qL ta):=by
 obtain⟨t1,p1,l1⟩:=ha
 refine⟨_,Rj Pn p1,fun σ H ρ Z Qd Q S h k=>?_⟩
 refine l1 σ H ρ Z _ _ S h fun x ux ad H1 e1 S1 rx h1=>?_
 split at h1
 ·rename_i i
  cases rx
  exact⟨i,rfl,k (.v _) _ ad H1 e1 S1 (Rp.int _) h1⟩
 ·exact h1.elim
noncomputable def y6(t u:DTT):DTT:=fun ρ Z Q=>t ρ Z fun c ad=>if c=true then u ρ ad Q else Q false ad
noncomputable def fZ(t u:DTT):DTT:=fun ρ Z Q=>t ρ Z fun c ad=>if c=true then Q true ad else u ρ ad Q
noncomputable def du(t:DTT):DTT:=fun ρ Z Q=>t ρ Z fun c ad=>Q (!c) ad
noncomputable def DW(X:Cx)(e:Expr)(td:DTT):Prop:=∃t,PW X e t/\Kh X.K t td
theorem DW.dt{e:Expr}{td:DTT}(h:DW X e td):DT X e td:=let ⟨t,p,l⟩:=h;⟨t,p.pt,l⟩
variable {tA tB':DTT}{rest:List Expr}
theorem xi(ha:DT X a tA):DW X (.BoolOp .And [a] pos) tA:=let ⟨t,p,l⟩:=ha;⟨t,pw_and1 p,l⟩
theorem dA(ha:DT X a tA):DW X (.BoolOp .Or [a] pos) tA:=let ⟨t,p,l⟩:=ha;⟨t,pw_or1 p,l⟩
theorem CT(ha:DT X a tA)(hb:DW X (.BoolOp .And (b::rest) pos) tB'):DW X (.BoolOp .And (a::b::rest) pos) (y6 tA tB'):=by
 obtain⟨t1,p1,l1⟩:=ha
 obtain⟨t2,p2,l2⟩:=hb
 refine⟨_,pw_and p1 p2,fun σ H ρ Z Qd Q S h k=>?_⟩
 refine l1 σ H ρ Z _ _ S h fun c ad H1 e1 S1 h1=>?_
 cases c with
 |true=>
  refine zo (l2 σ H1 ρ ad _ _ S1 (by simpa using h1) fun c am H2 e2 S2 h2=>k c am H2 (e1.trans e2) S2 h2)
 |false=>exact zL (k false ad H1 e1 S1 (by simpa using h1))
theorem dm(ha:DT X a tA)(hb:DW X (.BoolOp .Or (b::rest) pos) tB'):DW X (.BoolOp .Or (a::b::rest) pos) (fZ tA tB'):=by
 obtain⟨t1,p1,l1⟩:=ha
 obtain⟨t2,p2,l2⟩:=hb
 refine⟨_,pw_or p1 p2,fun σ H ρ Z Qd Q S h k=>?_⟩
 refine l1 σ H ρ Z _ _ S h fun c ad H1 e1 S1 h1=>?_
 cases c with
 |true=>exact zo (k true ad H1 e1 S1 (by simpa using h1))
 |false=>
  refine zL (l2 σ H1 ρ ad _ _ S1 (by simpa using h1) fun c am H2 e2 S2 h2=>k c am H2 (e1.trans e2) S2 h2)
theorem cu(ha:DT X a tA):DT X (.UnaryOp .Not a pos) (du tA):=by
 obtain⟨t1,p1,l1⟩:=ha
 refine⟨_,PJ p1,fun σ H ρ Z Qd Q S h k=>?_⟩
 exact l1 σ H ρ Z _ _ S h fun c ad H1 e1 S1 h1=>k _ ad H1 e1 S1 h1
noncomputable def kA(ta tb:DTE):DTE:=fun ρ Z Q=>ta ρ Z fun x ad=>match x with
 |.v (.bool c)=>if c=true then tb ρ ad Q else Q (.v (.bool false)) ad
 |_=>False
noncomputable def KR(ta:DTE):DTE:=fun ρ Z Q=>ta ρ Z fun x ad=>match x with
 |.v (.bool c)=>Q (.v (.bool (!c))) ad
 |_=>False
theorem jV{op}(h:DE X a ta):DE X (.BoolOp op [a] pos) ta:=let ⟨t,p,l⟩:=h;⟨t,PR p,l⟩
theorem ja(ha:DE X a ta)(hb:DE X (.BoolOp .And (b::rest) pos) tb):DE X (.BoolOp .And (a::b::rest) pos) (kA ta tb):=by
 obtain⟨t1,p1,l1⟩:=ha
 obtain⟨t2,p2,l2⟩:=hb
 refine⟨_,OE p1 p2,fun σ H ρ Z Qd Q S h k=>?_⟩
 refine l1 σ H ρ Z _ _ S h fun x ux ad H1 e1 S1 rx h1=>?_
 split at h1
 ·rename_i c
  cases rx
  refine⟨c,rfl,?_⟩
  cases c with
  |true=>exact zo (l2 σ H1 ρ ad _ _ S1 (by simpa using h1) fun d u am H2 e2 S2 r2 h2=>k d u am H2 (e1.trans e2) S2 r2 h2)
  |false=>exact zL (k (.v _) _ ad H1 e1 S1 (Rp.bool false) (by simpa using h1))
 ·exact h1.elim
theorem Lr(ha:DE X a ta):DE X (.UnaryOp .Not a pos) (KR ta):=by
 obtain⟨t1,p1,l1⟩:=ha
 refine⟨_,O6 p1,fun σ H ρ Z Qd Q S h k=>?_⟩
 refine l1 σ H ρ Z _ _ S h fun x ux ad H1 e1 S1 rx h1=>?_
 split at h1
 ·rename_i c
  cases rx
  exact⟨c,rfl,k (.v _) _ ad H1 e1 S1 (Rp.bool _) h1⟩
 ·exact h1.elim
noncomputable def dIf(t:DTT)(ta tb:DTE):DTE:=fun ρ Z Q=>t ρ Z fun c ad=>if c=true then ta ρ ad Q else tb ρ ad Q
theorem EF{c:Expr}(hc:DT X c tA)(ha:DE X a ta)(hb:DE X b tb):DE X (.IfExp c a b pos) (dIf tA ta tb):=by
 obtain⟨t0,p0,l0⟩:=hc
 obtain⟨t1,p1,l1⟩:=ha
 obtain⟨t2,p2,l2⟩:=hb
 refine⟨_,JZ p0 p1 p2,fun σ H ρ Z Qd Q S h k=>?_⟩
 refine l0 σ H ρ Z _ _ S h fun c ad H1 e1 S1 h1=>?_
 cases c with
 |true=>exact zo (l1 σ H1 ρ ad _ _ S1 (by simpa using h1) fun d u am H2 e2 S2 r2 h2=>k d u am H2 (e1.trans e2) S2 r2 h2)
 |false=>exact zL (l2 σ H1 ρ ad _ _ S1 (by simpa using h1) fun d u am H2 e2 S2 r2 h2=>k d u am H2 (e1.trans e2) S2 r2 h2)
end
section
variable {K:PySem.W.Frag}{Z ad:Mu}{H H1:Hp}{p:Addr}
theorem jk{o:HO}(h:H p=none):Ext K Z H Z (upd H p o):=
 ⟨fun b u e _ _=>by rw[aS (aY e h)];exact e,fun b ps e _=>⟨ps,by rw[aS (aY e h)];exact e⟩,fun _ ds q=>⟨ds,q⟩,fun _ q _=>q,fun b o e _=>⟨o,by rw[aS (aY e h)];exact e⟩,fun _ c q=>⟨c,q⟩⟩
theorem bJ.FH(ok:bJ K Z H)(e:Ext K Z H Z H1)(s:Am H H1):bJ K Z H1:=⟨fun a ds q=>by
 obtain⟨xs,h1,h2⟩:=ok a ds q
 exact⟨xs,s _ _ h1,h2.ext ok e⟩,ok.tab.of fun b o h _ _=>s b o h,fun a c q=>by
 obtain⟨z,o,h1,h2⟩:=ok.box a c q
 exact⟨z,o,s _ _ h1,h2.ext ok e⟩⟩
theorem xA{o:HO}(h:H p=none):Am H (upd H p o):=fun b u q=>by rw[aS (aY q h)];exact q
theorem bJ.new{o:HO}(ok:bJ K Z H)(h:H p=none):bJ K Z (upd H p o):=ok.FH (jk h) (xA h)
theorem St0.new{o:HO}{ρ:Rho}{σ:St}(S:St0 K H ρ Z σ)(h:H p=none):St0 K (upd H p o) ρ Z σ:=⟨S.mu.new h,S.rho.ext S.mu (jk h)⟩
theorem jZ{us:List V}{ds:List PyData}(ok:bJ K Z H)(r:RpL K Z H ds us)(h:H p=none):Rp K Z (upd H p (.tup us)) (.tuple ds) (.ref p):=
 .tuple (SqT.of eU) (r.ext ok (jk h))
theorem xN{us:List V}{ds:List PyData}(ok:bJ K Z H)(r:RpL K Z H ds us)(h:H p=none):Rp K Z (upd H p (.lst us)) (.list ds) (.ref p):=
 .list eU (ok.free h) (r.ext ok (jk h))
theorem iw{o:HO}{ds:List PyData}(ok:bJ K Z H)(h:H p=none)(hk:K.lookup p=none):Ext K Z H (aD Z p ds) (upd H p o) where
 keep:=fun b u e _ _=>by rw[aS (aY e h)];exact e
 tb:=fun b ps e _=>⟨ps,by rw[aS (aY e h)];exact e⟩
 dom:=fun b es q=>by
  have:b≠p:=fun z=>by rw[z,ok.free h] at q;cases q
  exact⟨es,by rw[aV this];exact q⟩
 fresh:=fun b n q=>by
  have:b≠p:=fun z=>by
   rcases q with q|q
   ·exact q (by rw[z];exact h)
   ·exact q (by rw[z];exact hk)
  rw[aV this];exact n
 st:=fun b o e _=>⟨o,by rw[aS (aY e h)];exact e⟩
 bx:=fun b c q=>⟨c,q⟩
theorem bJ.mut{us:List V}{ds:List PyData}(ok:bJ K Z H)(r:RpL K Z H ds us)(h:H p=none)(hk:K.lookup p=none):bJ K (aD Z p ds) (upd H p (.lst us)):=⟨fun a es q=>by
 have e:=iw (o:=.lst us) (ds:=ds) ok h hk
 by_cases ha:a=p
 ·subst ha
  rw[aE] at q
  cases q
  exact⟨us,eU,r.ext ok e⟩
 ·rw[aV ha] at q
  obtain⟨xs,h1,h2⟩:=ok a es q
  exact⟨xs,by rw[aS ha];exact h1,h2.ext ok e⟩,ok.tab.of fun b o e _ _=>by rw[aS (aY e h)];exact e,fun a c q=>by
 obtain⟨z,o,h1,h2⟩:=ok.box a c q
 exact⟨z,o,by rw[aS (aY h1 h)];exact h1,h2.ext ok (iw ok h hk)⟩⟩
theorem iF{o:HO}{ds es:List PyData}(h:Z p=some ds):Ext K Z H (aD Z p es) (upd H p o) where
 keep:=fun b u e n _=>by
  have:b≠p:=fun z=>by rw[z,h] at n;cases n
  rw[aS this];exact e
 tb:=fun b ps e n=>by
  have:b≠p:=fun z=>by rw[z,h] at n;cases n
  exact⟨ps,by rw[aS this];exact e⟩
 dom:=fun b fs q=>by
  by_cases hb:b=p
  ·subst hb;exact⟨es,aE⟩
  ·exact⟨fs,by rw[aV hb];exact q⟩
 fresh:=fun b n q=>by
  have:b≠p:=fun z=>by rw[z,h] at n;cases n
  rw[aV this];exact n
 st:=fun b o e n=>by
  have:b≠p:=fun z=>by rw[z,h] at n;cases n
  exact⟨o,by rw[aS this];exact e⟩
 bx:=fun b c q=>⟨c,q⟩
theorem bJ.set{us:List V}{ds es:List PyData}(ok:bJ K Z H)(h:Z p=some ds)(r:RpL K Z H es us):bJ K (aD Z p es) (upd H p (.lst us)):=⟨fun a fs q=>by
 have e:Ext K Z H (aD Z p es) (upd H p (.lst us)):=iF h
 by_cases ha:a=p
 ·subst ha
  rw[aE] at q
  cases q
  exact⟨us,eU,r.ext ok e⟩
 ·rw[aV ha] at q
  obtain⟨xs,h1,h2⟩:=ok a fs q
  exact⟨xs,by rw[aS ha];exact h1,h2.ext ok e⟩,by
 obtain⟨ys,hy,_⟩:=ok p ds h
 exact ok.tab.of fun b o e n _=>by
  have:b≠p:=fun z=>by rw[z,hy] at e;exact n ys (Option.some.inj e).symm
  rw[aS this];exact e,fun a c q=>by
 obtain⟨ys,hy,_⟩:=ok p ds h
 obtain⟨z,o,h1,h2⟩:=ok.box a c q
 have:a≠p:=fun w=>by rw[w,hy] at h1;cases h1
 exact⟨z,o,by rw[aS this];exact h1,h2.ext ok (iF h)⟩⟩
end
noncomputable def cY:List D->Option (List PyData)
 |[]=>some []
 |.v x::r=>(cY r).map (x::·)
 |_::_=>none
theorem j7.data{K:PySem.W.Frag}{Z:Mu}{H:Hp}:∀{ds:List D} {us:List V} {xs:List PyData},j7 K Z H ds us->cY ds=some xs->RpL K Z H xs us
 |_,_,_,.nil,e=>by cases e;exact .nil
 |.v x::r,_,xs,.cons h t,e=>by
  simp only[cY] at e
  cases q:cY r with
  |none=>rw[q] at e;cases e
  |some ys=>rw[q] at e;cases e;exact .cons h (j7.data t q)
 |.m _::_,_,_,.cons _ _,e=>by simp[cY] at e
 |.s _::_,_,_,.cons _ _,e=>by simp[cY] at e
 |.o _::_,_,_,.cons _ _,e=>by simp[cY] at e
section
variable {X:Cx}{e:Expr}{es:List Expr}{te:DTE}{t:DTA}{pos:Pos}
noncomputable def aw:DTA:=fun _ Z Q=>Q [] Z
noncomputable def ag(ta:DTE)(tr:DTA):DTA:=fun ρ Z Q=>ta ρ Z fun x ad=>tr ρ ad fun xs am=>Q (x::xs) am
theorem aj:DA X [] aw:=⟨_,vB,fun σ H ρ Z Qd Q S h k=>k [] [] Z H .refl S .nil rfl h⟩
theorem ae(ha:DE X e te)(hr:DA X es t)(hs:starEach (e::es) X.env=(false,eval e X.env)::starEach es X.env:=by rfl):DA X (e::es) (ag te t):=by
 obtain⟨t1,p1,l1⟩:=ha
 obtain⟨t2,p2,l2⟩:=hr
 refine⟨_,ko p1 p2 hs,fun σ H ρ Z Qd Q S h k=>?_⟩
 refine l1 σ H ρ Z _ _ S h fun x ux ad H1 e1 S1 rx h1=>?_
 refine l2 σ H1 ρ ad _ _ S1 h1 fun xs us am H2 e2 S2 rs len h2=>?_
 exact k (x::xs) (ux::us) am H2 (e1.trans e2) S2 (.cons (rx.ext S1.mu e2) rs) (by rw[length_cons,length_cons,len]) h2
noncomputable def bT(t:DTA):DTE:=fun ρ Z Q=>t ρ Z fun ds ad=>match cY ds with
 |some xs=>Q (.v (.tuple xs)) ad
 |none=>False
noncomputable def wB(t:DTA):DTE:=fun ρ Z Q=>t ρ Z fun ds ad=>match cY ds with
 |some xs=>Q (.v (.list xs)) ad
 |none=>False
noncomputable def qx(t:DTA):DTE:=fun ρ Z Q=>t ρ Z fun ds ad=>match cY ds with
 |some xs=>∀p,ad p=none->Q (.m p) (aD ad p xs)
 |none=>False
theorem aX{x1}(h:DA X es t)(hl:es.length<=1000:=by decide):DE X (.Tuple es x1 pos) (bT t):=by
 obtain⟨t1,p1,l1⟩:=h
 refine⟨_,PO p1,fun σ H ρ Z Qd Q S h k=>?_⟩
 refine l1 σ H ρ Z _ _ S h fun ds us ad H1 e1 S1 rs len h1=>?_
 cases q:cY ds with
 |none=>rw[q] at h1;exact h1.elim
 |some xs=>
  rw[q] at h1
  refine⟨Nat.le_of_lt (fK (by rw[<- rs.length,len];exact hl)),fun p hp=>?_⟩
  exact k (.v (.tuple xs)) _ ad _ (e1.trans (jk hp)) (S1.new hp) (jZ S1.mu (rs.data q) hp) h1
theorem kO(h:DA X es t)(hl:es.length<=1000:=by decide):DE X (.List es pos) (wB t):=by
 obtain⟨t1,p1,l1⟩:=h
 refine⟨_,O8 p1,fun σ H ρ Z Qd Q S h k=>?_⟩
 refine l1 σ H ρ Z _ _ S h fun ds us ad H1 e1 S1 rs len h1=>?_
 cases q:cY ds with
 |none=>rw[q] at h1;exact h1.elim
 |some xs=>
  rw[q] at h1
  refine⟨Nat.le_of_lt (fK (by rw[<- rs.length,len];exact hl)),fun p hp=>?_⟩
  exact k (.v (.list xs)) _ ad _ (e1.trans (jk hp)) (S1.new hp) (xN S1.mu (rs.data q) hp) h1
noncomputable def Q2(K:PySem.W.Frag)(t:TA):TE:=fun σ H Q=>t σ H fun xs H1=>xs.length<=sizeLine/\∀p,H1 p=none->K.lookup p=none->Q (.ref p) (upd H1 p (.lst xs))
theorem MZ{t:TA}(h:PA X es t):PE X (.List es pos) (Q2 X.K t):=by
 intro pins s σ H Q I hq
 refine wpAny_List_spliced (thn (h pos pins s σ H _ I hq) fun us s1 ⟨xs,H1,I1,r,z,q⟩=>⟨by rw[<- r.length];exact z,?_⟩)
 have hf:H1 s1.heap.objs.size=none:=I1.hok.fresh (le_refl _)
 have hk:X.K.lookup s1.heap.objs.size=none:=by
  cases c:X.K.lookup s1.heap.objs.size with
  |none=>rfl
  |some o=>exact absurd (Heap.lt_size (I1.kIn _ _ c)) (lt_irrefl _)
 refine⟨.ref s1.heap.objs.size,upd H1 s1.heap.objs.size (.lst xs),I1.laid (t':=s1.toks) (fun b u e=>Heap.get?_push_of_some _ e) (le_refl _) ?_,rfl,q _ hf hk⟩
 exact⟨z,us,0,r,Heap.get?_push_size _ rfl⟩
theorem km(h:DA X es t)(hl:es.length<=1000:=by decide):DE X (.List es pos) (qx t):=by
 obtain⟨t1,p1,l1⟩:=h
 refine⟨_,MZ p1,fun σ H ρ Z Qd Q S h k=>?_⟩
 refine l1 σ H ρ Z _ _ S h fun ds us ad H1 e1 S1 rs len h1=>?_
 cases q:cY ds with
 |none=>rw[q] at h1;exact h1.elim
 |some xs=>
  rw[q] at h1
  refine⟨Nat.le_of_lt (fK (by rw[<- rs.length,len];exact hl)),fun p hp hk=>?_⟩
  have ex:=iw (o:=.lst us) (ds:=xs) S1.mu hp hk
  exact k (.m p) _ (aD ad p xs) _ (e1.trans ex) ⟨S1.mu.mut (rs.data q) hp hk,S1.rho.ext S1.mu ex⟩ ⟨rfl,xs,aE⟩ (h1 p (S1.mu.free hp))
end
section
variable {X:Cx}{pins:List (Addr×Obj)}{σ:St}{H:Hp}{s:Shared}{Z:Mu}
mutual
theorem gK(I:Inv X pins σ H s):∀{d:PyData} {x:V} {u:Value},Rp X.K Z H d x->RelV x u->∃as,Reads s.heap u d as
 |_,_,_,.none,r=>by cases r;exact⟨_,.none⟩
 |_,_,_,.bool b,r=>by cases r;exact⟨_,.bool b⟩
 |_,_,_,.int i,r=>by obtain⟨t,rfl⟩:=r;exact⟨_,.int i t⟩
 |_,_,_,.str y,r=>by obtain⟨t,rfl⟩:=r;exact⟨_,.str y t⟩
 |_,_,_,.list h _ q,r=>by
  cases r
  obtain⟨its,rv,⟨o,n,ho,hc,_,hd⟩,_⟩:=I.list (SqL.of h)
  obtain⟨as,ra⟩:=o3 I q rv
  exact⟨_,.list ho hc hd (by simpa using ra)⟩
 |_,_,_,.tuple h q,r=>by
  cases r
  obtain⟨its,rv,⟨o,ho,hc,n,hd⟩,_⟩:=I.tuple h
  obtain⟨as,ra⟩:=o3 I q rv
  exact⟨_,.tuple ho hc hd (by simpa using ra)⟩
theorem o3(I:Inv X pins σ H s):∀{ds:List PyData} {xs:List V} {us:List Value},RpL X.K Z H ds xs->Vals xs us->∃as,ReadsAll s.heap us ds as
 |_,_,_,.nil,.nil=>⟨_,.nil⟩
 |_,_,_,.cons h t,.cons r q=>by
  obtain⟨as,ra⟩:=gK I h r
  obtain⟨bs,rb⟩:=o3 I t q
  exact⟨_,.cons ra rb⟩
end
end
section
variable {X:Cx}
noncomputable def PH(K:PySem.W.Frag)(neg:Bool):R2:=fun x y H Q=>∃Z a b,Rp K Z H a x/\Rp K Z H b y/\SeqAt.shaped a=true/\SeqAt.shaped b=true/\Q (.bl (neg ^^ PyData.eqv a b)) H
theorem cZ(hu:X.A.units+64<cLine):OpR X (compareOp .Eq) (PH X.K false):=by
 intro pins s σ H x y v u Q I rx ry h
 obtain⟨Z,a,b,ha,hb,sa,sb,q⟩:=h
 obtain⟨as,ra⟩:=gK I ha rx
 obtain⟨bs,rb⟩:=gK I hb ry
 exact eq_dataH ra rb sa sb hu ⟨.bl (PyData.eqv a b),H,I,rfl,by simpa using q⟩
theorem eo(hu:X.A.units+64<cLine):OpR X (compareOp .NotEq) (PH X.K true):=by
 intro pins s σ H x y v u Q I rx ry h
 obtain⟨Z,a,b,ha,hb,sa,sb,q⟩:=h
 obtain⟨as,ra⟩:=gK I ha rx
 obtain⟨bs,rb⟩:=gK I hb ry
 exact ne_dataH ra rb sa sb hu ⟨.bl (!PyData.eqv a b),H,I,rfl,by simpa using q⟩
noncomputable def cM(neg:Bool):D->D->Mu->DK->Prop:=fun x y Z Q=>match x,y with
 |.v a,.v b=>SeqAt.shaped a=true/\SeqAt.shaped b=true/\Q (.v (.bool (neg ^^ PyData.eqv a b))) Z
 |_,_=>False
theorem bq{K:PySem.W.Frag}{neg:Bool}:jY K (PH K neg) (cM neg):=by
 intro x y ux uy H Z Qd Q ok rx ry h k
 unfold cM at h
 split at h
 ·rename_i a b
  exact⟨Z,a,b,rx,ry,h.1,h.2.1,k (.v _) _ Z H .refl ok (Rp.bool _) h.2.2⟩
 ·exact h.elim
noncomputable def OM(K:PySem.W.Frag)(neg:Bool):R2:=fun x y H Q=>∃Z a bs,Rp K Z H a x/\Rp K Z H (.list bs) y/\PyData.canLayAll0 bs=true/\a.canLay0=true/\PyData.depth a<=60/\Q (.bl (neg ^^ bs.any fun b=>PyData.eqv b a)) H
theorem RW(hu:X.A.units+64<cLine):OpR X (compareOp .In) (OM X.K false):=by
 intro pins s σ H x y v u Q I rx ry h
 obtain⟨Z,a,b,ha,hb,sb,sa,dp,q⟩:=h
 obtain⟨as,ra⟩:=gK I ha rx
 obtain⟨bs,rb⟩:=gK I hb ry
 refine SeqAt.in_list_reads rb ra sb sa ∅ ⟨.bl (b.any fun z=>PyData.eqv z a),H,I,rfl,by simpa using q⟩
theorem JB(hu:X.A.units+64<cLine):OpR X (compareOp .NotIn) (OM X.K true):=by
 intro pins s σ H x y v u Q I rx ry h
 obtain⟨Z,a,b,ha,hb,sb,sa,dp,q⟩:=h
 obtain⟨as,ra⟩:=gK I ha rx
 obtain⟨bs,rb⟩:=gK I hb ry
 refine SeqAt.notIn_list_reads rb ra sb sa ∅ ⟨.bl (!b.any fun z=>PyData.eqv z a),H,I,rfl,by simpa using q⟩
noncomputable def Nw(neg:Bool):D->D->Mu->DK->Prop:=fun x y Z Q=>match x,y with
 |.v a,.v (.list bs)=>PyData.canLayAll0 bs=true/\a.canLay0=true/\PyData.depth a<=60/\Q (.v (.bool (neg ^^ bs.any fun b=>PyData.eqv b a))) Z
 |_,_=>False
theorem Pf{K:PySem.W.Frag}{neg:Bool}:jY K (OM K neg) (Nw neg):=by
 intro x y ux uy H Z Qd Q ok rx ry h k
 unfold Nw at h
 split at h
 ·rename_i a b
  exact⟨Z,a,b,rx,ry,h.1,h.2.1,h.2.2.1,k (.v _) _ Z H .refl ok (Rp.bool _) h.2.2.2⟩
 ·exact h.elim
end
section
variable {X:Cx}{a b e:Expr}{es:List Expr}{ta tb te:DTE}{t:DTA}{p pos:Pos}
noncomputable def aM:D->D->Mu->DK->Prop:=fun x y Z Q=>match x,y with
 |.v (.list xs),.v (.int i)=>(match atI xs i with|some d=>Q (.v d) Z|none=>False)
 |.v (.tuple xs),.v (.int i)=>(match atI xs i with|some d=>Q (.v d) Z|none=>False)
 |.m l,.v (.int i)=>(match Z l with
  |some xs=>(match atI xs i with|some d=>Q (.v d) Z|none=>False)
  |none=>False)
 |.s ns,.v (.int i)=>(match atI ns i with|some d=>Q (.v (.int d)) Z|none=>False)
 |_,_=>False
theorem Qu{K:PySem.W.Frag}:jY K (rIx K) aM:=by
 intro x y ux uy H Z Qd Q ok rx ry h k
 unfold aM at h
 split at h
 ·rename_i xs i
  cases ry
  cases q:atI xs i with
  |none=>rw[q] at h;exact h.elim
  |some d=>
   rw[q] at h
   cases rx with
   |list hs hn r=>
    obtain⟨u,e1,e2⟩:=Gw r q
    exact .inl ⟨_,_,i,u,rfl,rfl,SqL.of hs,e1,k (.v d) u Z H .refl ok e2 h⟩
 ·rename_i xs i
  cases ry
  cases q:atI xs i with
  |none=>rw[q] at h;exact h.elim
  |some d=>
   rw[q] at h
   cases rx with
   |tuple hs r=>
    obtain⟨u,e1,e2⟩:=Gw r q
    exact .inr (.inl ⟨_,_,i,u,rfl,rfl,hs,e1,k (.v d) u Z H .refl ok e2 h⟩)
 ·rename_i l i
  cases ry
  obtain⟨rfl,ds,hm⟩:=rx
  rw[hm] at h
  simp only at h
  cases q:atI ds i with
  |none=>rw[q] at h;exact h.elim
  |some d=>
   rw[q] at h
   obtain⟨us,hl,r⟩:=ok l ds hm
   obtain⟨u,e1,e2⟩:=Gw r q
   exact .inl ⟨_,_,i,u,rfl,rfl,SqL.of hl,e1,k (.v d) u Z H .refl ok e2 h⟩
 ·rename_i ns i
  cases ry
  obtain⟨a,rfl,hs,hn⟩:=rx
  cases q:atI ns i with
  |none=>rw[q] at h;exact h.elim
  |some d=>
   rw[q] at h
   have e1:atI (ns.map V.int) i=some (.int d):=by
    unfold atI at q ⊢
    rw[length_map]
    cases z:ixN ns.length i with
    |none=>rw[z] at q;cases q
    |some j=>
     rw[z] at q
     simp only[bind_some,getElem?_map] at q ⊢
     rw[q]<;>rfl
   exact .inl ⟨_,_,i,_,rfl,rfl,hs,e1,k (.v (.int d)) _ Z H .refl ok (Rp.int d) h⟩
 ·exact h.elim
theorem aF(ha:DE X a ta)(hb:DE X b tb)(hs:Hs b:=by exact fun _ _=>rfl):DE X (.Subscript a b pos) (dOp aM ta tb):=by
 obtain⟨t1,p1,l1⟩:=ha
 obtain⟨t2,p2,l2⟩:=hb
 exact⟨_,Ra Ot p1 p2 hs,w8 Qu l1 l2⟩
noncomputable def xU(Z:Mu):D->Option (List PyData)
 |.v (.list xs)=>some xs
 |.m l=>Z l
 |_=>none
noncomputable def N2:D->D->Mu->DK->Prop:=fun x y Z Q=>match xU Z x,xU Z y with
 |some xs,some ys=>xs.length+ys.length<=1000/\Q (.v (.list (xs++ys))) Z
 |_,_=>False
theorem Hv{n:Nat}(h:n<=1000):n<=sizeLine:=Nat.le_of_lt (fK h)
end
end L2.DL
namespace HT
open PySem PyProof.Rows
end HT
namespace L2.DL
open PySem PySem.Spec PyProof.Rows
section
variable {X:Cx}{a b e:Expr}{lo hi:Option Expr}{ta tb te:DTE}{pos p2:Pos}
noncomputable abbrev DTO:=Rho->Mu->(Option Int->Mu->Prop)->Prop
end
section
variable {X:Cx}{a b e:Expr}{es:List Expr}{ta tb te:DTE}{t:DTA}{p pos:Pos}{x:Str}{bid T:String}
noncomputable def pf(K:PySem.W.Frag)(r:List V->Hp->VK->Prop)(rd:List D->Mu->DK->Prop):Prop:=∀(xs:List D) (us:List V) (H:Hp) (Z:Mu) (Qd:DK) (Q:VK),bJ K Z H->j7 K Z H xs us->rd xs Z Qd ->
 (∀d u U H',Ext K Z H U H'->bJ K U H'->RpD K U H' d u->Qd d U->Q u H')->r us H Q
noncomputable def dCB(rd:List D->Mu->DK->Prop)(t:DTA):DTE:=fun ρ Z Q=>t ρ Z fun ds ad=>rd ds ad Q
theorem HG{K:PySem.W.Frag}{n:Nat}{r:List V->Hp->VK->Prop}{rd:List D->Mu->DK->Prop}{t1:TA}(lc:pf K r rd)(l1:N1 K n t1 t):tP K (tCB r t1) (dCB rd t):=by
 intro σ H ρ Z Qd Q S h k
 refine l1 σ H ρ Z _ _ S h fun xs us ad H1 e1 S1 rs len h1=>?_
 exact lc xs us H1 ad _ _ S1.mu rs h1 fun d u U H' e2 ok r q=>k d u U H' (e1.trans e2) ⟨ok,S1.rho.ext S1.mu e2⟩ r q
theorem lK{r:List V->Hp->VK->Prop}{rd:List D->Mu->DK->Prop}(hc:kE X (.builtin bid) r)(lc:pf X.K r rd)(hg:Gl X x)(hm:X.mg x=none)(hv:bootBuiltins x=some (.builtin bid))(ha:DA X (e::es) t)(hn:x ≠ "__name__":=by decide)(hdb:(x==("__debug__":Str))=false:=by decide)
  (he:starEach (e::es) X.env=(false,eval e X.env)::starEach es X.env:=by rfl) (hpl:(backTo pos (starEach es X.env)).any (·.1)=false:=by rfl):DE X (.Call (.Name x p) (e::es) [] pos) (dCB rd t):=by
 obtain⟨t1,p1,l1⟩:=ha
 exact⟨_,Dr hc hg hm hv p1 hn hdb he hpl,HG lc l1⟩
theorem uC{r:List V->Hp->VK->Prop}{rd:List D->Mu->DK->Prop}(hc:kE X (.type T) r)(lc:pf X.K r rd)(hg:Gl X x)(hm:X.mg x=none)(hv:bootBuiltins x=some (.type T))(ha:DA X (e::es) t)(hn:x ≠ "__name__":=by decide)(hdb:(x==("__debug__":Str))=false:=by decide)
  (he:starEach (e::es) X.env=(false,eval e X.env)::starEach es X.env:=by rfl) (hpl:(backTo pos (starEach es X.env)).any (·.1)=false:=by rfl):DE X (.Call (.Name x p) (e::es) [] pos) (dCB rd t):=by
 obtain⟨t1,p1,l1⟩:=ha
 exact⟨_,Jb hc hg hm hv p1 hn hdb he hpl,HG lc l1⟩
noncomputable def dw:List D->Mu->DK->Prop:=fun xs Z Q=>match xs with
 |[.v (.list ys)]=>Q (.v (.int (ys.length:Nat))) Z
 |[.v (.tuple ys)]=>Q (.v (.int (ys.length:Nat))) Z
 |[.m l]=>(match Z l with|some ys=>Q (.v (.int (ys.length:Nat))) Z|none=>False)
 |[.s ns]=>Q (.v (.int (ns.length:Nat))) Z
 |_=>False
theorem Qo{K:PySem.W.Frag}:pf K (fun xs H Q=>∃p ys,xs=[.ref p]/\(SqL K H p ys\/SqT K H p ys)/\Q (.int ys.length) H) dw:=by
 intro xs us H Z Qd Q ok rs h k
 unfold dw at h
 split at h
 ·cases rs with
  |cons r1 r2=>
   cases r2
   cases r1 with
   |list hs hn r=>exact⟨_,_,rfl,.inl (SqL.of hs),k (.v _) _ Z H .refl ok (by rw[<- r.length];exact Rp.int _) h⟩
 ·cases rs with
  |cons r1 r2=>
   cases r2
   cases r1 with
   |tuple hs r=>exact⟨_,_,rfl,.inr hs,k (.v _) _ Z H .refl ok (by rw[<- r.length];exact Rp.int _) h⟩
 ·cases rs with
  |cons r1 r2=>
   cases r2
   obtain⟨rfl,ds,hm⟩:=r1
   rw[hm] at h
   obtain⟨us,hl,r⟩:=ok _ ds hm
   exact⟨_,_,rfl,.inl (SqL.of hl),k (.v _) _ Z H .refl ok (by rw[<- r.length];exact Rp.int _) h⟩
 ·cases rs with
  |cons r1 r2=>
   cases r2
   obtain⟨a,rfl,hs,hn⟩:=r1
   exact⟨_,_,rfl,.inl hs,k (.v _) _ Z H .refl ok (by rw[length_map];exact Rp.int _) h⟩
 ·exact h.elim
theorem dD(hg:Gl X "len")(hm:X.mg "len"=none)(ha:DA X (e::es) t)
  (he:starEach (e::es) X.env=(false,eval e X.env)::starEach es X.env:=by rfl) (hpl:(backTo pos (starEach es X.env)).any (·.1)=false:=by rfl):DE X (.Call (.Name "len" p) (e::es) [] pos) (dCB dw t):=
 lK B8 Qo hg hm PySem.boot_len ha ⋯ ⋯ he hpl
noncomputable def tW:List D->Mu->DK->Prop:=fun xs Z Q=>match xs with
 |[.v (.int i)]=>Q (.v (.int (i.natAbs:Nat))) Z
 |_=>False
theorem OR{K:PySem.W.Frag}:pf K (fun xs H Q=>∃i,xs=[.int i]/\Q (.int (if i<0 then -i else i)) H) tW:=by
 intro xs us H Z Qd Q ok rs h k
 unfold tW at h
 split at h
 ·rename_i i
  cases rs with
  |cons r1 r2=>
   cases r2
   cases r1
   refine⟨i,rfl,k (.v (.int (i.natAbs:Nat))) _ Z H .refl ok ?_ h⟩
   have:(if i<0 then -i else i)=((i.natAbs:Nat):Int):=by split<;>omega
   rw[this]
   exact Rp.int _
 ·exact h.elim
theorem xw(hg:Gl X "abs")(hm:X.mg "abs"=none)(ha:DA X (e::es) t)
  (he:starEach (e::es) X.env=(false,eval e X.env)::starEach es X.env:=by rfl) (hpl:(backTo pos (starEach es X.env)).any (·.1)=false:=by rfl):DE X (.Call (.Name "abs" p) (e::es) [] pos) (dCB tW t):=
 lK K9 OR hg hm PyProof.Rows.Boot.«abs» ha ⋯ ⋯ he hpl
noncomputable def CL(g:Int->Int->Int):List D->Mu->DK->Prop:=fun xs Z Q=>match xs with
 |[.v (.int i),.v (.int j)]=>Q (.v (.int (g i j))) Z
 |_=>False
theorem Oj{K:PySem.W.Frag}{g g':Int->Int->Int}(hg:∀i j,g i j=g' i j):pf K (fun xs H Q=>∃i j,xs=[.int i,.int j]/\Q (.int (g i j)) H) (CL g'):=by
 intro xs us H Z Qd Q ok rs h k
 unfold CL at h
 split at h
 ·rename_i i j
  cases rs with
  |cons r1 r2=>
   cases r2 with
   |cons r2 r3=>
    cases r3
    cases r1
    cases r2
    exact⟨i,j,rfl,k (.v _) _ Z H .refl ok (by rw[hg];exact Rp.int _) h⟩
 ·exact h.elim
theorem Oq(hc:X.calm=true)(hg:Gl X "max")(hm:X.mg "max"=none)(ha:DA X (e::es) t)
  (he:starEach (e::es) X.env=(false,eval e X.env)::starEach es X.env:=by rfl) (hpl:(backTo pos (starEach es X.env)).any (·.1)=false:=by rfl):DE X (.Call (.Name "max" p) (e::es) [] pos) (dCB (CL max) t):=
 lK (IQ hc) (Oj (fun i j=>by show (if j>i then j else i)=max i j;simp only[Int.max_def];split<;>split<;>omega)) hg hm PyProof.Rows.Boot.«max» ha ⋯ ⋯ he hpl
theorem FU(hc:X.calm=true)(hg:Gl X "min")(hm:X.mg "min"=none)(ha:DA X (e::es) t)
  (he:starEach (e::es) X.env=(false,eval e X.env)::starEach es X.env:=by rfl) (hpl:(backTo pos (starEach es X.env)).any (·.1)=false:=by rfl):DE X (.Call (.Name "min" p) (e::es) [] pos) (dCB (CL min) t):=
 lK (JC hc) (Oj (fun i j=>by show (if j<i then j else i)=min i j;simp only[Int.min_def];split<;>split<;>omega)) hg hm PyProof.Rows.Boot.«min» ha ⋯ ⋯ he hpl
noncomputable def tp:List D->Mu->DK->Prop:=fun xs Z Q=>match xs with
 |[.v (.int i)]=>Q (.v (.int i)) Z
 |[.v (.bool k)]=>Q (.v (.int (if k then 1 else 0))) Z
 |_=>False
theorem PN{K:PySem.W.Frag}:pf K (fun xs H Q=>(∃i,xs=[.int i]/\Q (.int i) H)\/∃k,xs=[.bl k]/\Q (.int (if k then 1 else 0)) H) tp:=by
 intro xs us H Z Qd Q ok rs h k
 unfold tp at h
 split at h
 ·rename_i i
  cases rs with
  |cons r1 r2=>cases r2;cases r1;exact .inl ⟨i,rfl,k (.v _) _ Z H .refl ok (Rp.int _) h⟩
 ·rename_i b
  cases rs with
  |cons r1 r2=>cases r2;cases r1;exact .inr ⟨b,rfl,k (.v _) _ Z H .refl ok (Rp.int _) h⟩
 ·exact h.elim
theorem oH(hg:Gl X "int")(hm:X.mg "int"=none)(ha:DA X (e::es) t)
  (he:starEach (e::es) X.env=(false,eval e X.env)::starEach es X.env:=by rfl) (hpl:(backTo pos (starEach es X.env)).any (·.1)=false:=by rfl):DE X (.Call (.Name "int" p) (e::es) [] pos) (dCB tp t):=
 uC JQ PN hg hm PyProof.Rows.Boot.«int» ha ⋯ ⋯ he hpl
theorem DF:∀{bs:List Bool} {us:List Value},Vals (bs.map V.bl) us->us=bs.map Value.bool
 |[],_,.nil=>rfl
 |b::r,_,.cons h t=>by cases h;rw[DF t];rfl
theorem JK(hc:X.calm=true):kE X (.builtin "all") (fun xs H Q=>∃(p:Addr) (bs:List Bool),xs=[.ref p]/\H p=some (.lst (bs.map V.bl))/\Q (.bl (bs.all id)) H):=by
 intro pins s σ H xs us Q I r h
 obtain⟨l,bs,rfl,hl,q⟩:=h
 obtain⟨u,rfl,rx⟩:=vals1 r
 cases rx
 obtain⟨its,rv,pl,_⟩:=I.list (SqL.of hl)
 have eb:=DF rv
 subst eb
 have hL:=pl.isList
 have hlt:=pl.lt
 refine call_all_walk (wpAny_pyIter_list hL ?_)
 refine⟨s.heap.objs.size,[s.heap.objs.size,l],[s.heap.objs.size],(bs.map Value.bool).toArray.size,_,_,fun i=>(bs[i]?).getD true,rfl,Walks.list (A:=X.A.in1) (by exact I.ok.hd hc) _ l (ne_of_lt hlt) (bs.map Value.bool).toArray,
  ⟨⟨_,Heap.get?_push_size _ rfl,rfl,rfl⟩,hL.push _⟩,fun i v s' Q' E' hP hQ=>?_,fun h' tk hk=>?_⟩
 ·have hP':(bs.map Value.bool)[i]? = some v:=by simpa using hP
  rw[getElem?_map] at hP'
  cases z:bs[i]? with
  |none=>rw[z] at hP';cases hP'
  |some b=>
   rw[z] at hP'
   cases hP'
   simp only[z,Option.getD_some] at hQ
   exact wpAny_truthy_bool hQ
 ·have e:((List.range (bs.map Value.bool).toArray.size).all fun i=>(bs[i]?).getD true)=bs.all id:=by
   rw[size_toArray,length_map];exact PyProof.Rows.LSm.range_all bs
  rw[e]
  exact⟨.bl (bs.all id),H,I.kept (PyProof.Rows.LSm.kept_iter hk),rfl,q⟩
noncomputable def cX:List PyData->Option (List Bool)
 |[]=>some []
 |.bool b::r=>(cX r).map (b::·)
 |_::_=>none
theorem xM{K:PySem.W.Frag}{Z:Mu}{H:Hp}:∀{xs:List PyData} {us:List V} {bs:List Bool},RpL K Z H xs us->cX xs=some bs->us=bs.map V.bl
 |_,_,_,.nil,e=>by cases e;rfl
 |.bool b::r,_,bs,.cons h t,e=>by
  simp only[cX] at e
  cases q:cX r with
  |none=>rw[q] at e;cases e
  |some cs=>rw[q] at e;cases e;cases h;rw[xM t q];rfl
 |.none::r,_,bs,.cons h t,e=>by simp[cX] at e
 |.int _::r,_,bs,.cons h t,e=>by simp[cX] at e
 |.str _::r,_,bs,.cons h t,e=>by simp[cX] at e
 |.list _::r,_,bs,.cons h t,e=>by simp[cX] at e
 |.tuple _::r,_,bs,.cons h t,e=>by simp[cX] at e
 |.dict _::r,_,bs,.cons h t,e=>by simp[cX] at e
noncomputable def vV:List D->Mu->DK->Prop:=fun xs Z Q=>match xs with
 |[.v (.list ys)]=>(match cX ys with|some bs=>Q (.v (.bool (bs.all id))) Z|none=>False)
 |_=>False
theorem Qt{K:PySem.W.Frag}:pf K (fun xs H Q=>∃(p:Addr) (bs:List Bool),xs=[.ref p]/\H p=some (.lst (bs.map V.bl))/\Q (.bl (bs.all id)) H) vV:=by
 intro xs us H Z Qd Q ok rs h k
 unfold vV at h
 split at h
 ·rename_i ys
  cases q:cX ys with
  |none=>rw[q] at h;exact h.elim
  |some bs=>
   rw[q] at h
   cases rs with
   |cons r1 r2=>
    cases r2
    cases r1 with
    |list hs hn r=>exact⟨_,bs,rfl,by rw[hs,xM r q],k (.v _) _ Z H .refl ok (Rp.bool _) h⟩
 ·exact h.elim
theorem BB(hc:X.calm=true)(hg:Gl X "all")(hm:X.mg "all"=none)(ha:DA X (e::es) t)
  (he:starEach (e::es) X.env=(false,eval e X.env)::starEach es X.env:=by rfl) (hpl:(backTo pos (starEach es X.env)).any (·.1)=false:=by rfl):DE X (.Call (.Name "all" p) (e::es) [] pos) (dCB vV t):=
 lK (JK hc) Qt hg hm PyProof.Rows.Boot.«all» ha ⋯ ⋯ he hpl
noncomputable def tyD:PyData->String
 |.none=>"NoneType"
 |.bool _=>"bool"
 |.int _=>"int"
 |.str _=>"str"
 |.list _=>"list"
 |.tuple _=>"tuple"
 |.dict _=>"dict"
noncomputable def isT(T:String)(d:PyData):Bool:=tyD d==T || (T == "int"&&tyD d == "bool")
theorem JF{pins:List (Addr×Obj)}{σ:St}{H:Hp}{s:Shared}{Z:Mu}{d:PyData}{u:V}{v:Value}{k:Bool}{A:Around}{E:Value->Shared->Prop}{Q:Value->Shared->Prop}(I:Inv X pins σ H s)(r:Rp X.K Z H d u)(rx:RelV u v)
  (ek:kitOne X.K (.type (tyD d)) (.type T)=some k) (h:∀tk,Q (.bool k) {s with toks:=tk}):wpAny (model X.prog X.w) A (call (.builtin "isinstance") [v,.type T]) Q E s:=by
 cases r with
 |none=>cases rx;exact kia_one PySem.W.kitx_none I.kIn True.intro ek (fun z=>nomatch z) h
 |bool b=>cases rx;exact kia_one PySem.W.kitx_bool I.kIn True.intro ek (fun z=>nomatch z) h
 |int i=>obtain⟨t,rfl⟩:=rx;exact kia_one PySem.W.kitx_int I.kIn True.intro ek (fun z=>nomatch z) h
 |str y=>obtain⟨t,rfl⟩:=rx;exact kia_one PySem.W.kitx_str I.kIn True.intro ek (fun z=>nomatch z) h
 |list hs hn q=>
  cases rx
  obtain⟨its,rv,⟨o,n,h1,h2,_⟩,_⟩:=I.list (SqL.of hs)
  exact kia_one PySem.W.kitx_list I.kIn ⟨o,h1,h2⟩ ek (fun z=>nomatch z) h
 |tuple hs q=>
  cases rx
  obtain⟨its,rv,⟨o,h1,h2,_⟩,_⟩:=I.tuple hs
  exact kia_one PySem.W.kitx_tuple I.kIn ⟨o,h1,h2⟩ ek (fun z=>nomatch z) h
theorem HW(K:PySem.W.Frag)(d:PyData):kitOne K (.type (tyD d)) (.type "int")=some (isT "int" d):=by cases d<;>rfl
theorem Fe(K:PySem.W.Frag)(d:PyData):kitOne K (.type (tyD d)) (.type "bool")=some (isT "bool" d):=by cases d<;>rfl
theorem kit_tuple(K:PySem.W.Frag)(d:PyData):kitOne K (.type (tyD d)) (.type "tuple")=some (isT "tuple" d):=by cases d<;>rfl
theorem D9(kt:∀d,kitOne X.K (.type (tyD d)) (.type T)=some (isT T d)):kE X (.builtin "isinstance") (fun xs H Q=>∃Z d u,xs=[u,.ty T]/\Rp X.K Z H d u/\Q (.bl (isT T d)) H):=by
 intro pins s σ H xs us Q I r h
 obtain⟨Z,d,u,rfl,rd,q⟩:=h
 obtain⟨v,w',rfl,r1,r2⟩:=vals2 r
 cases r2
 exact JF I rd r1 (kt d) fun tk=>⟨.bl (isT T d),H,I.tok _,rfl,q⟩
noncomputable def wX(T:String)(te:DTE):DTE:=fun ρ Z Q=>te ρ Z fun x ad=>match x with
 |.v d=>Q (.v (.bool (isT T d))) ad
 |_=>False
theorem jh{y:Str}{py:Pos}(kt:∀d,kitOne X.K (.type (tyD d)) (.type T)=some (isT T d))(hg:Gl X "isinstance")(hm:X.mg "isinstance"=none)(hgy:Gl X y)(hmy:X.mg y=none)(hvy:bootBuiltins y=some (.type T))(ha:DE X e te)
  (hny:y ≠ "__name__":=by decide) (hdy:(y==("__debug__":Str))=false:=by decide)
  (he:starEach [e,.Name y py] X.env=(false,eval e X.env)::starEach [.Name y py] X.env:=by rfl) (he2:starEach [.Name y py] X.env=[(false,eval (.Name y py) X.env)]:=by rfl) (hpl:(backTo pos (starEach [.Name y py] X.env)).any (·.1)=false:=by rfl):DE X (.Call (.Name "isinstance" p) [e,.Name y py] [] pos) (wX T te):=by
 obtain⟨t1,p1,l1⟩:=ha
 refine⟨_,Dr (D9 kt) hg hm PyProof.Rows.Boot.«isinstance» (ko p1 (ko (NI (v:=.ty T) hgy hmy hvy rfl hny hdy) vB he2) he) ⋯ ⋯ he hpl,fun σ H ρ Z Qd Q S h k=>?_⟩
 refine l1 σ H ρ Z _ _ S h fun x ux ad H1 e1 S1 rx h1=>?_
 split at h1
 ·exact⟨ad,_,ux,rfl,rx,k (.v _) _ ad H1 e1 S1 (Rp.bool _) h1⟩
 ·exact h1.elim
end
section
variable {X:Cx}{a b e:Expr}{es:List Expr}{ta tb te:DTE}{t:DTA}{p pos:Pos}{st:Stmt}{rest sts:List Stmt}{td ud:DTS}{tc:DTT}
noncomputable def bA:DTS:=fun Dd ρ Z=>Dd.nx ρ Z
noncomputable def aK(t u:DTS):DTS:=fun Dd ρ Z=>t {Dd with nx:=u Dd} ρ Z
noncomputable def bb(te:DTE):DTS:=fun Dd ρ Z=>te ρ Z Dd.rt
noncomputable def nE(te:DTE):DTS:=fun Dd ρ Z=>te ρ Z fun _ ad=>Dd.nx ρ ad
noncomputable def cF(c:DTT)(t u:DTS):DTS:=fun Dd ρ Z=>c ρ Z fun b ad=>if b=true then t Dd ρ ad else u Dd ρ ad
theorem aU:DSs X [] bA:=⟨_,NB,fun σ H ρ Z Dd De S h k1 k2 k3 k4=>k1 σ ρ Z H .refl S h⟩
theorem ar(h:DS X st td):DSs X [st] td:=let ⟨t,p,l⟩:=h;⟨t,NQ p,l⟩
theorem lift_seq{K:PySem.W.Frag}{t u:TS}(l1:A0 K t td)(l2:A0 K u ud):A0 K (RD t u) (aK td ud):=by
 intro σ H ρ Z Dd De S h k1 k2 k3 k4
 refine l1 σ H ρ Z _ _ S h (fun bn be U H' e' S' h'=>?_) k2 k3 k4
 exact l2 bn H' be U Dd De S' h' (fun a b c d e2=>k1 a b c d (e'.trans e2)) (fun a b c d e2=>k2 a b c d (e'.trans e2)) (fun a b c d e2=>k3 a b c d (e'.trans e2)) (fun a b c d e2=>k4 a b c d (e'.trans e2))
theorem ak(h1:DS X st td)(h2:DSs X rest ud):DSs X (st::rest) (aK td ud):=by
 obtain⟨t1,p1,l1⟩:=h1
 obtain⟨t2,p2,l2⟩:=h2
 exact⟨_,J7 p1 p2,lift_seq l1 l2⟩
theorem aC(he:DE X e te):DS X (.Return (some e) pos) (bb te):=by
 obtain⟨t1,p1,l1⟩:=he
 exact⟨_,Qh p1,fun σ H ρ Z Dd De S h k1 k2 k3 k4=>l1 σ H ρ Z _ _ S h fun d u U H' e' S' r q=>k2 d u U H' e' S'.mu r q⟩
theorem iG(he:DE X e te)(hs:swapsWith e none pos.line X.env=pure false:=by rfl):DS X (.Expr e pos) (nE te):=by
 obtain⟨t1,p1,l1⟩:=he
 exact⟨_,NN p1 hs,fun σ H ρ Z Dd De S h k1 k2 k3 k4=>l1 σ H ρ Z _ _ S h fun d u U H' e' S' r q=>k1 σ ρ U H' e' S' q⟩
theorem bB{c:Expr}{x y:List Stmt}(hc:DT X c tc)(ha:DSs X x td)(hb:DSs X y ud):DS X (.If c x y pos) (cF tc td ud):=by
 obtain⟨t0,p0,l0⟩:=hc
 obtain⟨t1,p1,l1⟩:=ha
 obtain⟨t2,p2,l2⟩:=hb
 refine⟨_,RK p0 p1 p2,fun σ H ρ Z Dd De S h k1 k2 k3 k4=>?_⟩
 refine l0 σ H ρ Z _ _ S h fun c ad H1 e1 S1 h1=>?_
 cases c with
 |true=>exact zo (l1 σ H1 ρ ad Dd De S1 (by simpa using h1) (fun a b c d e2=>k1 a b c d (e1.trans e2)) (fun a b c d e2=>k2 a b c d (e1.trans e2)) (fun a b c d e2=>k3 a b c d (e1.trans e2)) (fun a b c d e2=>k4 a b c d (e1.trans e2)))
 |false=>exact zL (l2 σ H1 ρ ad Dd De S1 (by simpa using h1) (fun a b c d e2=>k1 a b c d (e1.trans e2)) (fun a b c d e2=>k2 a b c d (e1.trans e2)) (fun a b c d e2=>k3 a b c d (e1.trans e2)) (fun a b c d e2=>k4 a b c d (e1.trans e2)))
noncomputable abbrev DTG:=D->Rho->Mu->(Rho->Mu->Prop)->Prop
noncomputable abbrev Au:=List PyData->Rho->Mu->(Rho->Mu->Prop)->Prop
noncomputable def My(K:PySem.W.Frag)(g:TG)(gd:DTG):Prop:=∀(σ:St) (H:Hp) (ρ:Rho) (Z:Mu) (d:D) (u:V) (Qd:Rho->Mu->Prop) (Q:St->Hp->Prop),St0 K H ρ Z σ->RpD K Z H d u->gd d ρ Z Qd ->
 (∀bn be U H',Ext K Z H U H'->St0 K H' be U bn->Qd be U->Q bn H')->g u σ H Q
noncomputable def P7(K:PySem.W.Frag)(g:TGs)(gd:Au):Prop:=∀(σ:St) (H:Hp) (ρ:Rho) (Z:Mu) (ds:List PyData) (us:List V) (Qd:Rho->Mu->Prop) (Q:St->Hp->Prop),St0 K H ρ Z σ->RpL K Z H ds us->gd ds ρ Z Qd ->
 (∀bn be U H',Ext K Z H U H'->St0 K H' be U bn->Qd be U->Q bn H')->g us σ H Q
noncomputable def DG(X:Cx)(tg:Expr)(gd:DTG):Prop:=∃g,PG X tg g/\My X.K g gd
noncomputable def DGs(X:Cx)(tg:List Expr)(gd:Au):Prop:=∃g,PGs X tg g/\P7 X.K g gd
theorem iQ.set{K:PySem.W.Frag}{Z:Mu}{H:Hp}{ρ:Rho}{σ:St}{i:Nat}{d:D}{u:V}(r:iQ K Z H ρ σ)(h:RpD K Z H d u):iQ K Z H (ρ.set i (some d)) (σ.set i (some u)):=by
 refine⟨by rw[List.length_set,List.length_set];exact r.1,fun j d' e=>?_⟩
 by_cases hj:i=j
 ·subst hj
  have hl:i<ρ.length:=by
   have:=(List.getElem?_eq_some_iff.mp e).1
   rw[List.length_set] at this
   exact this
  rw[List.getElem?_set_self hl] at e
  cases e
  exact⟨u,List.getElem?_set_self (by rw[<- r.1];exact hl),h⟩
 ·rw[List.getElem?_set_ne hj] at e
  obtain⟨w,e1,e2⟩:=r.2 j d' e
  exact⟨w,by rw[List.getElem?_set_ne hj];exact e1,e2⟩
noncomputable def ao(i:Nat):DTG:=fun d ρ Z Q=>Q (ρ.set i (some d)) Z
theorem yR{K:PySem.W.Frag}{i:Nat}:My K (Mx i) (ao i):=fun σ H ρ Z d u Qd Q S r h k=>k _ _ Z H .refl ⟨S.mu,S.rho.set r⟩ h
theorem au{i:Nat}{x:Str}(hN:X.N.Nodup)(hi:X.N[i]? = some x)(hx:Loc X.env.scope x)(hf:X.fn x=true\/X.env.scope.names.lookup x=some .local:=by first|exact .inl rfl|exact .inr rfl|assumption):DG X (.Name x pos) (ao i):=⟨_,NA hN hi hx hf,yR⟩
noncomputable def bY:Au:=fun ds ρ Z Q=>match ds with
 |[]=>Q ρ Z
 |_=>False
noncomputable def aA(g:DTG)(gs:Au):Au:=fun ds ρ Z Q=>match ds with
 |d::r=>g (.v d) ρ Z fun tz ad=>gs r tz ad Q
 |_=>False
theorem bg:DGs X [] bY:=⟨_,MV,fun σ H ρ Z ds us Qd Q S r h k=>by
 cases r with
 |nil=>exact⟨rfl,k σ ρ Z H .refl S h⟩
 |cons _ _=>exact h.elim⟩
theorem av{g:DTG}{gs:Au}(h1:DG X e g)(h2:DGs X es gs)(hs:(assignEach (e::es) X.env).map (·.2)=assign e X.env::(assignEach es X.env).map (·.2):=by rfl):DGs X (e::es) (aA g gs):=by
 obtain⟨t1,p1,l1⟩:=h1
 obtain⟨t2,p2,l2⟩:=h2
 refine⟨_,Lu p1 p2 hs,fun σ H ρ Z ds us Qd Q S r h k=>?_⟩
 cases r with
 |nil=>exact h.elim
 |@cons d u ds us r1 r2=>
  refine⟨u,us,rfl,l1 σ H ρ Z (.v d) u _ _ S r1 h fun bn be U H' e1 S' h1=>?_⟩
  exact l2 bn H' be U ds us _ _ S' (r2.ext S.mu e1) h1 fun a b c d e2=>k a b c d (e1.trans e2)
noncomputable def bU(n:Nat)(gs:Au):DTG:=fun d ρ Z Q=>match d with
 |.v (.tuple xs)=>xs.length=n/\gs xs ρ Z Q
 |_=>False
theorem bE{k n:Nat}{gs:Au}(hc:X.calm=X.calm)(h:DGs X es gs)
  (hn:(assignEach es X.env).length=n:=by rfl) (hst:(assignEach es X.env).findIdx? (·.1)=none:=by rfl):DG X (.Tuple es k pos) (bU n gs):=by
 obtain⟨t1,p1,l1⟩:=h
 refine⟨_,OZ hc p1 hn hst,fun σ H ρ Z d u Qd Q S r h k=>?_⟩
 unfold bU at h
 split at h
 ·cases r with
  |@tuple a us _ ha ra=>exact⟨a,us,rfl,ha,by rw[<- ra.length];exact h.1,l1 σ H ρ Z _ us _ _ S ra h.2 k⟩
 ·exact h.elim
noncomputable def HX(to ti:DTE):DTG:=fun d ρ Z Q=>to ρ Z fun o ad=>ti ρ ad fun i am=>match o,i,d with
 |.m l,.v (.int k),.v x=>(match am l with
  |some xs=>(match ixN xs.length k with
   |some j=>Q ρ (aD am l (xs.set j x))
   |none=>False)
  |none=>False)
 |_,_,_=>False
theorem J1{o i:Expr}{to ti:DTE}(ho:DE X o to)(hi:DE X i ti)
  (ha:∀v,assign (.Subscript o i pos) X.env v=(do
   let ov <- holding [v] (eval o X.env)
   let iv <- holding [v,ov] (eval i X.env)
   standAt pos
   holding [v,ov,iv] (setItem ov iv v)
   release [v,ov,iv] []):=by intro _;rfl):DG X (.Subscript o i pos) (HX to ti):=by
 obtain⟨t1,p1,l1⟩:=ho
 obtain⟨t2,p2,l2⟩:=hi
 refine⟨_,O7 p1 p2 set_list ha,fun σ H ρ Z d u Qd Q S r h k=>?_⟩
 refine l1 σ H ρ Z _ _ S h fun x ux ad H1 e1 S1 rx h1=>?_
 refine l2 σ H1 ρ ad _ _ S1 h1 fun y uy am H2 e2 S2 ry h2=>?_
 have r2:=(r.ext S.mu e1).ext S1.mu e2
 have rx2:=rx.ext S1.mu e2
 split at h2
 ·rename_i l kk xv
  obtain⟨rfl,ds,hm⟩:=rx2
  cases ry
  rw[hm] at h2
  obtain⟨us,hl,rl⟩:=S2.mu l ds hm
  simp only at h2
  cases q:ixN ds.length kk with
  |none=>rw[q] at h2;exact h2.elim
  |some j=>
   rw[q] at h2
   refine⟨l,us,kk,j,rfl,rfl,hl,by rw[<- rl.length];exact q,?_⟩
   have ex:Ext X.K am H2 (aD am l (ds.set j xv)) (upd H2 l (.lst (us.set j u))):=iF hm
   exact k σ ρ _ _ (e1.trans (e2.trans ex)) ⟨S2.mu.set hm (rl.set r2 j),S2.rho.ext S2.mu ex⟩ h2
 ·exact h2.elim
noncomputable def bc(te:DTE)(g:DTG):DTS:=fun Dd ρ Z=>te ρ Z fun d ad=>g d ρ ad Dd.nx
theorem D7{K:PySem.W.Frag}{t:TE}{g:TG}{gd:DTG}(l1:tP K t te)(l2:My K g gd):A0 K (Pj t g) (bc te gd):=by
 intro σ H ρ Z Dd De S h k1 k2 k3 k4
 refine l1 σ H ρ Z _ _ S h fun d u ad H1 e1 S1 r h1=>?_
 exact l2 σ H1 ρ ad d u _ _ S1 r h1 fun a b c d e2=>k1 a b c d (e1.trans e2)
theorem dz{tg:Expr}{g:DTG}(he:DE X e te)(hg:DG X tg g)(hs:swapsWithSole [tg] e pos.line X.env=pure false:=by rfl)(hw:swappedStores [tg] e X.env=pure none:=by rfl)
  (h1:(assignEach [tg] X.env).map (·.2)=[assign tg X.env]:=by rfl):DS X (.Assign [tg] e pos) (bc te g):=by
 obtain⟨t1,p1,l1⟩:=he
 obtain⟨t2,p2,l2⟩:=hg
 exact⟨_,Om p1 p2 hs hw h1,D7 l1 l2⟩
theorem aW{i:Nat}{x:Str}{pos':Pos}(hN:X.N.Nodup)(hi:X.N[i]? = some x)(hx:Loc X.env.scope x)(he:DE X e te)(hs:swapsWith e (some (.Name x pos')) pos.line X.env=pure false:=by rfl)(hf:X.fn x=true\/X.env.scope.names.lookup x=some .local:=by first|exact .inl rfl|exact .inr rfl|assumption) :
  DS X (.Assign [.Name x pos'] e pos) (bc te (ao i)):=by
 obtain⟨t1,p1,l1⟩:=he
 exact⟨_,Ou hN hi hx p1 hs hf,D7 l1 yR⟩
noncomputable def Cu(i j:Nat)(t:DTA):DTS:=fun Dd ρ Z=>t ρ Z fun ds ad=>match ds with
 |[v,w]=>Dd.nx ((ρ.set i (some v)).set j (some w)) ad
 |_=>False
theorem qM{i j:Nat}{x y:Str}{a b:Expr}{t:DTA}{px py pt:Pos}{kt k2 pt2}(hc:X.calm=true)(hN:X.N.Nodup)(hi:X.N[i]? = some x)(hj:X.N[j]? = some y)(hij:i≠j)
  (hx:X.env.scope.names.lookup x=some .local) (hy:X.env.scope.names.lookup y=some .local) (ha:DA X [a,b] t)
  (hw:swappedStores [.Tuple [.Name x px,.Name y py] kt pt] (.Tuple [a,b] k2 pt2) X.env=pure (some [x,y]))
  (hs:swapsWithSole [.Tuple [.Name x px,.Name y py] kt pt] (.Tuple [a,b] k2 pt2) pos.line X.env=pure false:=by rfl) :
  DS X (.Assign [.Tuple [.Name x px,.Name y py] kt pt] (.Tuple [a,b] k2 pt2) pos) (Cu i j t):=by
 obtain⟨t1,p1,l1⟩:=ha
 refine⟨_,Py hc hN hi hj hij hx hy p1 hw hs,fun σ H ρ Z Dd De S h k1 k2 k3 k4=>?_⟩
 refine l1 σ H ρ Z _ _ S h fun ds us ad H1 e1 S1 rs len h1=>?_
 split at h1
 ·cases rs with
  |cons r1 r2=>
   cases r2 with
   |cons r2 r3=>
    cases r3
    exact⟨_,_,rfl,k1 _ _ ad H1 e1 ⟨S1.mu,(S1.rho.set r1).set r2⟩ h1⟩
 ·exact h1.elim
noncomputable def qA(c:DTT)(tb:DTS):DTS:=fun Dd ρ Z=>∃W:Nat->Rho->Mu->Prop,(∃m,W m ρ Z)/\∀m ρ Z,W m ρ Z ->
 c ρ Z fun b ad=>if b=true then tb {Dd with nx:=fun be U=>∃m',m'<m/\W m' be U,ct:=fun be U=>∃m',m'<m/\W m' be U,bk:=Dd.nx} ρ ad else Dd.nx ρ ad
theorem oG{c:Expr}{body:List Stmt}(hp:PassesOwn (model X.prog X.w) X.A X.env X.xe)(hc:DT X c tc)(hb:DSs X body td):DS X (.While c body [] pos) (qA tc td):=by
 obtain⟨t0,p0,l0⟩:=hc
 obtain⟨t1,p1,l1⟩:=hb
 refine⟨_,Mp hp p0 p1,fun σ H ρ Z Dd De S h k1 k2 k3 k4=>?_⟩
 obtain⟨W,⟨m,w0⟩,turn⟩:=h
 refine⟨fun m bn H'=>∃be U,Ext X.K Z H U H'/\St0 X.K H' be U bn/\W m be U,⟨m,ρ,Z,.refl,S,w0⟩,?_⟩
 rintro m tj H1 ⟨tz,ad,e1,S1,w1⟩
 refine l0 tj H1 tz ad _ _ S1 (turn m tz ad w1) fun b am H2 e2 S2 h2=>?_
 cases b with
 |true=>
  refine zo ⟨fun bn H'=>∃m',m'<m/\∃be U,Ext X.K Z H U H'/\St0 X.K H' be U bn/\W m' be U,fun bn H' ⟨m',hm,q⟩=>⟨m',hm,q⟩,?_⟩
  have nxt:∀bn be U H',Ext X.K am H2 U H'->St0 X.K H' be U bn->(∃m',m'<m/\W m' be U)->∃m',m'<m/\∃be U,Ext X.K Z H U H'/\St0 X.K H' be U bn/\W m' be U:=
   fun bn be U H' e3 S3 ⟨m',hm,q⟩=>⟨m',hm,be,U,e1.trans (e2.trans e3),S3,q⟩
  rw[if_pos rfl] at h2
  exact l1 tj H2 tz am _ _ S2 h2 nxt (fun a b c d e3=>k2 a b c d (e1.trans (e2.trans e3))) (fun a b c d e3=>k1 a b c d (e1.trans (e2.trans e3))) nxt
 |false=>exact zL (k1 tj tz am H2 (e1.trans e2) S2 (by simpa using h2))
noncomputable abbrev DTI:=Rho->Mu->(List PyData->Mu->Prop)->Prop
noncomputable def Jw(K:PySem.W.Frag)(J:It)(xs:List PyData)(ad:Mu)(H1:Hp):Prop:=∀am H2,Ext K ad H1 am H2->bJ K am H2->∀i,(i<xs.length->J.go i H2/\∀x H',J.yld i H2 x H'->∃d,xs[i]? = some d/\Am H2 H'/\Rp K am H' d x)/\(i=xs.length->J.stop i H2)
noncomputable def RE(K:PySem.W.Frag)(wi:TI)(src:DTI):Prop:=∀(σ:St) (H:Hp) (ρ:Rho) (Z:Mu) (Qd:List PyData->Mu->Prop) (R:It->Hp->Prop),St0 K H ρ Z σ->src ρ Z Qd ->
 (∀xs ad H1 J,Ext K Z H ad H1->St0 K H1 ρ ad σ->Jw K J xs ad H1->Qd xs ad->R J H1)->wi σ H R
noncomputable def DI(X:Cx)(tg iter:Expr)(src:DTI):Prop:=∃wi,PI X tg iter wi/\RE X.K wi src
variable {tg:Expr}
noncomputable def jd(te:DTE):DTI:=fun ρ Z Q=>te ρ Z fun d ad=>match d with
 |.v (.list xs)=>Q xs ad
 |_=>False
noncomputable def gR(te:DTE):DTI:=fun ρ Z Q=>te ρ Z fun d ad=>match d with
 |.v (.tuple xs)=>Q xs ad
 |_=>False
theorem iD(h:DE X e te):DI X tg e (jd te):=by
 obtain⟨t1,p1,l1⟩:=h
 refine⟨_,IA p1,fun σ H ρ Z Qd R S h k=>?_⟩
 refine l1 σ H ρ Z _ _ S h fun d u ad H1 e1 S1 r h1=>?_
 split at h1
 ·rename_i xs
  cases r with
  |@list a us _ ha hn ra=>
   refine⟨a,rfl,⟨us,SqL.of ha⟩,k xs ad H1 _ e1 S1 (fun am H2 e2 ok2 i=>⟨fun hi=>?_,fun hi=>?_⟩) h1⟩
   ·have ha2:=e2.keep _ _ ha hn trivial
    have hiu:i<us.length:=by rw[<- ra.length];exact hi
    refine⟨⟨us,us[i],SqL.of ha2,by simp[hiu]⟩,fun x H' hq0=>?_⟩
    obtain⟨eH,hx⟩:=hq0
    subst eH
    obtain⟨u',h1',h2'⟩:=ra.get (i:=i) (d:=xs[i]) (by simp[hi])
    have:=hx us (SqL.of ha2)
    rw[h1'] at this
    cases this
    exact⟨xs[i],by simp[hi],Am.refl _,h2'.ext S1.mu e2⟩
   ·exact⟨us,SqL.of (e2.keep _ _ ha hn trivial),by rw[<- ra.length];omega⟩
 ·exact h1.elim
theorem gT(h:DE X e te):DI X tg e (gR te):=by
 obtain⟨t1,p1,l1⟩:=h
 refine⟨_,Qf p1,fun σ H ρ Z Qd R S h k=>?_⟩
 refine l1 σ H ρ Z _ _ S h fun d u ad H1 e1 S1 r h1=>?_
 split at h1
 ·rename_i xs
  cases r with
  |@tuple a us _ ha ra=>
   refine⟨a,rfl,⟨us,ha⟩,k xs ad H1 _ e1 S1 (fun am H2 e2 ok2 i=>⟨fun hi=>?_,fun hi=>?_⟩) h1⟩
   ·have ha2:=mJ S1.mu e2 ha
    have hiu:i<us.length:=by rw[<- ra.length];exact hi
    refine⟨⟨us,us[i],ha2,by simp[hiu]⟩,fun x H' hq0=>?_⟩
    obtain⟨eH,hx⟩:=hq0
    subst eH
    obtain⟨u',h1',h2'⟩:=ra.get (i:=i) (d:=xs[i]) (by simp[hi])
    have:=hx us ha2
    rw[h1'] at this
    cases this
    exact⟨xs[i],by simp[hi],Am.refl _,h2'.ext S1.mu e2⟩
   ·exact⟨us,mJ S1.mu e2 ha,by rw[<- ra.length];omega⟩
 ·exact h1.elim
noncomputable def og(lo:Int)(n:Nat):List PyData:=(List.range n).map fun (i:Nat)=>PyData.int (lo+(i:Int))
theorem LN{K:PySem.W.Frag}{lo:Int}{n:Nat}{Z:Mu}{H:Hp}:Jw K (Itr lo n) (og lo n) Z H:=fun am H2 e2 ok2 i=>by
 have hl:(og lo n).length=n:=by unfold og;simp
 refine⟨fun hi=>?_,fun hi=>?_⟩
 ·rw[hl] at hi
  refine⟨hi,fun x H' hq0=>?_⟩
  obtain⟨eH,hx⟩:=hq0
  subst eH hx
  exact⟨.int (lo+i),by unfold og;simp[hi],Am.refl _,.int _⟩
 ·show n<=i
  omega
noncomputable def oR(t:DTA):DTI:=fun ρ Z Q=>t ρ Z fun ds ad=>match ds with
 |[.v (.int j)]=>(-(2 ^ 62)<=j/\j<2 ^ 62)/\Q (og 0 j.toNat) ad
 |_=>False
noncomputable def qN(t:DTA):DTI:=fun ρ Z Q=>t ρ Z fun ds ad=>match ds with
 |[.v (.int i),.v (.int j)]=>(-(2 ^ 62)<=i/\i<2 ^ 62/\-(2 ^ 62)<=j/\j<2 ^ 62)/\Q (og i (j-i).toNat) ad
 |_=>False
theorem p4{a:Expr}{t:DTA}{p pos:Pos}(hg:Gl X "range")(hm:X.mg "range"=none)(ha:DA X [a] t)(hs:starEach [a] X.env=[(false,eval a X.env)]:=by rfl)(hc:X.calm=true:=by rfl):DI X tg (.Call (.Name "range" p) [a] [] pos) (oR t):=by
 obtain⟨t1,p1,l1⟩:=ha
 refine⟨_,Jx hc hg hm p1 hs,fun σ H ρ Z Qd R S h k=>?_⟩
 refine l1 σ H ρ Z _ _ S h fun ds us ad H1 e1 S1 rs len h1=>?_
 split at h1
 ·rename_i j
  cases rs with
  |cons r1 r2=>cases r2;cases r1;exact⟨j,rfl,h1.1.1,h1.1.2,k _ ad H1 _ e1 S1 LN h1.2⟩
 ·exact h1.elim
theorem rP{a b:Expr}{t:DTA}{p pos:Pos}(hg:Gl X "range")(hm:X.mg "range"=none)(ha:DA X [a,b] t)(hs:starEach [a,b] X.env=[(false,eval a X.env),(false,eval b X.env)]:=by rfl)(hs2:starEach [b] X.env=[(false,eval b X.env)]:=by rfl)(hc:X.calm=true:=by rfl):DI X tg (.Call (.Name "range" p) [a,b] [] pos) (qN t):=by
 obtain⟨t1,p1,l1⟩:=ha
 refine⟨_,JV hc hg hm p1 hs hs2,fun σ H ρ Z Qd R S h k=>?_⟩
 refine l1 σ H ρ Z _ _ S h fun ds us ad H1 e1 S1 rs len h1=>?_
 split at h1
 ·rename_i i j
  cases rs with
  |cons r1 r2=>
   cases r2 with
   |cons r2 r3=>cases r3;cases r1;cases r2;exact⟨i,j,rfl,h1.1,k _ ad H1 _ e1 S1 LN h1.2⟩
 ·exact h1.elim
noncomputable def nU(src:DTI)(g:DTG)(tb:DTS):DTS:=fun Dd ρ Z=>src ρ Z fun xs ad=>∃Pv:Nat->Rho->Mu->Prop,Pv 0 ρ ad /\
 (∀i x be U,xs[i]? = some x->Pv i be U->g (.v x) be U fun ci am=>tb {Dd with nx:=Pv (i+1),ct:=Pv (i+1),bk:=Dd.nx} ci am)/\(∀be U,Pv xs.length be U->Dd.nx be U)
theorem eS{iter:Expr}{body:List Stmt}{src:DTI}{g:DTG}(hp:PassesOwn (model X.prog X.w) X.A X.env X.xe)(hc:X.calm=true)(hi:DI X tg iter src)(hg:DG X tg g)(hb:DSs X body td)
  (hs:∀x,foldedSetIterable iter X.env x=pure x:=by intro _;rfl):DS X (.For tg iter body [] pos) (nU src g td):=by
 obtain⟨t0,p0,l0⟩:=hi
 obtain⟨t1,p1,l1⟩:=hg
 obtain⟨t2,p2,l2⟩:=hb
 refine⟨_,Kd hp hc p0 p1 p2 hs,fun σ H ρ Z Dd De S h k1 k2 k3 k4=>?_⟩
 refine l0 σ H ρ Z _ _ S h fun xs ad H1 J e1 S1 it h1=>?_
 obtain⟨Pv,pv0,turn,fin⟩:=h1
 refine⟨fun i m bn H'=>m=xs.length-i/\i<=xs.length/\∃be U,Ext X.K ad H1 U H'/\St0 X.K H' be U bn/\Pv i be U,⟨xs.length,by simp,zero_le _,ρ,ad,.refl,S1,pv0⟩,?_⟩
 rintro i m bn H' ⟨rfl,hi,be,U,e2,S2,pv⟩
 obtain⟨go,stop⟩:=it U H' e2 S2.mu i
 by_cases hlt:i<xs.length
 ·obtain⟨g1,y1⟩:=go hlt
  refine .inr ⟨g1,fun u8 H2=>∃ci am,Ext X.K ad H1 am H2/\St0 X.K H2 ci am u8/\Pv (i+1) ci am,fun u8 H2 q=>⟨xs.length-(i+1),∅,rfl,hlt,q⟩,fun x H2 yl=>?_⟩
  obtain⟨d,hd,sm,rd⟩:=y1 x H2 yl
  have e3:Ext X.K U H' U H2:=.of_same sm
  have S3:St0 X.K H2 be U bn:=⟨S2.mu.FH e3 sm,S2.rho.ext S2.mu e3⟩
  refine l1 bn H2 be U (.v d) x _ _ S3 rd (turn i d be U hd pv) fun ww wl db H4 e4 S4 h4=>?_
  have nxt:∀a b c dd,Ext X.K db H4 c dd->St0 X.K dd b c a->Pv (i+1) b c->∃ci am,Ext X.K ad H1 am dd/\St0 X.K dd ci am a/\Pv (i+1) ci am:=fun a b c dd e5 S5 q=>⟨b,c,e2.trans (e3.trans (e4.trans e5)),S5,q⟩
  have ee:=e1.trans (e2.trans (e3.trans e4))
  exact l2 ww H4 wl db _ _ S4 h4 nxt (fun a b c d e5=>k2 a b c d (ee.trans e5)) (fun a b c d e5=>k1 a b c d (ee.trans e5)) nxt
 ·have ei:i=xs.length:=by omega
  subst ei
  exact .inl ⟨stop rfl,k1 bn be U H' (e1.trans e2) S2 (fin be U pv)⟩
end
noncomputable abbrev DSp:=List D->Mu->DK->Prop
noncomputable def spD(K:PySem.W.Frag)(dsp:DSp):Sp:=fun vs H Q _=>∃(ds:List D) (Z:Mu) (Qd:DK),bJ K Z H/\j7 K Z H ds vs/\dsp ds Z Qd /\
 (∀d u U H',Ext K Z H U H'->bJ K U H'->RpD K U H' d u->Qd d U->Q u H')
noncomputable def aL(N:List Str)(ds:List D):Rho:=ds.map some++List.replicate (N.length-ds.length) none
theorem j7.get{K:PySem.W.Frag}{Z:Mu}{H:Hp}{ds:List D}{us:List V}:∀{i:Nat} {d:D},j7 K Z H ds us->ds[i]? = some d->∃u,us[i]? = some u/\RpD K Z H d u
 |_,_,.nil,h=>by simp at h
 |0,_,.cons r _,h=>by simp at h;subst h;exact⟨_,rfl,r⟩
 |i+1,d,.cons _ t,h=>by
  obtain⟨u,h1,h2⟩:=j7.get (i:=i) (d:=d) t (by simpa using h)
  exact⟨u,by simpa using h1,h2⟩
theorem Jr{K:PySem.W.Frag}{Z:Mu}{H:Hp}{N:List Str}{ds:List D}{vs:List V}(r:j7 K Z H ds vs):iQ K Z H (aL N ds) (start N vs):=by
 have hl:=r.length
 refine⟨by unfold aL start;simp[hl],fun i d e=>?_⟩
 unfold aL at e
 by_cases hi:i<ds.length
 ·rw[getElem?_append_left (by simpa using hi),getElem?_map] at e
  unfold start
  rw[getElem?_append_left (by simpa [hl] using hi),getElem?_map]
  cases q:ds[i]? with
  |none=>rw[q] at e;cases e
  |some d'=>
   rw[q] at e
   cases e
   obtain⟨u,h1,h2⟩:=r.get q
   exact⟨u,by rw[h1];rfl,h2⟩
 ·rw[getElem?_append_right (by simpa using hi),List.getElem?_replicate] at e
  split at e<;>cases e
section
variable {P:Program}{w:World}{K:PySem.W.Frag}{mg:Str->Option Value}{base:Heap}
theorem _root_.L2.Fun.okD{x qual:Str}{st:Stmt}{f:Addr}{fd:FuncData}{N ps:List Str}{k:Nat}{dsp:DSp}(F:Fun K x qual st f fd)(S:aH N ps (ay st))(len:∀ds Z Q,dsp ds Z Q->ds.length=ps.length)
  (hbody:∀(cdv:Value) (A:Around) (outer:List Env) (s:Shared) (H:Hp) (E:XK),nt k (A.deeper (envOfC qual (ay st) s.heap.objs.size f cdv)) ->
   ∃td,DSs (GD CX0 P w K mg base N qual (ay st) f cdv A outer s H E).nox (jw st) td/\∀ds Z Qd,dsp ds Z Qd->td ‹Qd› (aL N ds) Z):br P w K mg base CX0 (k+1) f fd ps (spD K dsp):=by
 refine F.ok S (fun vs H Q E h=>?_) (fun cdv A outer s H vs Q E hr h=>?_)
 ·obtain⟨ds,Z,Qd,_,r,h,_⟩:=h
  rw[<- r.length]
  exact len ds Z Qd h
 ·obtain⟨ds,Z,Qd,ok,r,h,fin⟩:=h
  obtain⟨td,⟨t,p,l⟩,rd⟩:=hbody cdv A outer s H E hr
  refine⟨t,p,?_⟩
  exact l (start N vs) H (aL N ds) Z _ _ ⟨ok,Jr r⟩ (rd ds Z Qd h) (fun bn be U H' e' S' q=>fin (.v .none) .non U H' e' S'.mu Rp.none q) (fun d u U H' e' ok' r' q=>fin d u U H' e' ok' r' q) (fun _ _ _ _ _ _ q=>q) (fun _ _ _ _ _ _ q=>q)
end
section
variable {X:Cx}{e:Expr}{es:List Expr}{t:DTA}{p pos:Pos}{x:Str}{k:Nat}{f:Addr}{fd:FuncData}{ps:List Str}{dsp:DSp}
noncomputable def az(dsp:DSp)(t:DTA):DTE:=fun ρ Z Q=>t ρ Z fun ds ad=>dsp ds ad Q
theorem aq(F:br X.prog X.w X.K X.mg X.base CX0 k f fd ps (spD X.K dsp))(hr:nt k X.A)(hg:Gl X x)(hm:X.mg x=some (.ref f))(hk:keepIn X.K (.ref f)=true)(hb:Binds X.K fd ps [])
  (ha:DA X (e::es) t) (hdb:(x==("__debug__":Str))=false:=by decide) (he:starEach (e::es) X.env=(false,eval e X.env)::starEach es X.env:=by rfl) (hpl:(backTo pos (starEach es X.env)).any (·.1)=false:=by rfl) :
  DE X (.Call (.Name x p) (e::es) [] pos) (az dsp t):=by
 obtain⟨t1,p1,l1⟩:=ha
 refine⟨_,NK F hr hg hm hk hb .nil Rt p1 hdb he hpl,fun σ H ρ Z Qd Q S h kk=>?_⟩
 refine l1 σ H ρ Z _ _ S h fun ds us ad H1 e1 S1 rs len h1=>?_
 refine⟨ds,ad,Qd,S1.mu,by rw[append_nil];exact rs,h1,fun d u U H' e2 ok r q=>?_⟩
 exact kk d u U H' (e1.trans e2) ⟨ok,S1.rho.ext S1.mu e2⟩ r q
end
section
variable {X:Cx}{o e:Expr}{to te:DTE}{apos cpos:Pos}
noncomputable def Jf(to te:DTE):DTE:=fun ρ Z Q=>to ρ Z fun x ad=>match x with
 |.m l=>te ρ ad fun y am=>(match y,am l with
  |.v d,some xs=>xs.length<1000/\Q (.v .none) (aD am l (xs++[d]))
  |_,_=>False)
 |_=>False
theorem p6(ho:DE X o to)(ha:DE X e te)(hbase:attributeBase o "append" X.env (eval o X.env)=eval o X.env:=by rfl)
  (hfew:((backTo cpos (starEach [e] X.env)).all (fun x=>!x.1)&&(backToKw cpos (keywordEach [] X.env)).all (fun x=>x.1.isSome)
   && decide ([e].length+([]:List Keyword).length+(if ([]:List Keyword).isEmpty then 0 else 1)<30))=true:=by rfl)
  (hline:(apos.endLine==cpos.line)=true:=by rfl) (hs:starEach [e] X.env=(false,eval e X.env)::starEach [] X.env:=by rfl) (hplain:(backTo cpos (starEach [] X.env)).any (·.1)=false:=by rfl) :
  DE X (.Call (.Attribute o "append" apos) [e] [] cpos) (Jf to te):=by
 obtain⟨t1,p1,l1⟩:=ho
 obtain⟨t2,p2,l2⟩:=ha
 refine⟨_,Im plainAttrs_list PySem.F.slot_list_append PySem.F.type_list_append pX p1 (ko p2 vB hs) hbase hfew hline hs hplain,fun σ H ρ Z Qd Q S h k=>?_⟩
 refine l1 σ H ρ Z _ _ S h fun x ux ad H1 e1 S1 rx h1=>?_
 cases x with
 |m l=>
  obtain⟨rfl,ds,hm⟩:=id rx
  obtain⟨us,hl,rl⟩:=S1.mu l ds hm
  refine⟨.inl ⟨rfl,us,SqL.of hl⟩,?_⟩
  refine l2 σ H1 ρ ad _ _ S1 h1 fun y uy am H2 e2 S2 ry h2=>?_
  obtain⟨_,ds2,hm2⟩:=rx.ext S1.mu e2
  obtain⟨us2,hl2,rl2⟩:=S2.mu l ds2 hm2
  rw[hm2] at h2
  cases y with
  |v d=>
   have h3:ds2.length<1000/\Qd (.v .none) (aD am l (ds2++[d])):=h2
   refine⟨l,us2,uy,rfl,rfl,hl2,by rw[<- rl2.length];exact fK (Nat.le_of_lt h3.1),?_⟩
   have ex:Ext X.K am H2 (aD am l (ds2++[d])) (upd H2 l (.lst (us2++[uy]))):=iF hm2
   exact k (.v .none) .non _ _ (e1.trans (e2.trans ex)) ⟨S2.mu.set hm2 (rl2.append (.cons ry .nil)),S2.rho.ext S2.mu ex⟩ Rp.none h3.2
  |m _=>exact h2.elim
  |s _=>exact h2.elim
  |o _=>exact h2.elim
  |b _=>exact h2.elim
  |q _=>exact h2.elim
 |v d=>exact h1.elim
 |s ns=>exact h1.elim
 |o _=>exact h1.elim
 |b _=>exact h1.elim
 |q _=>exact h1.elim
noncomputable def Oo(to te:DTE):DTE:=fun ρ Z Q=>to ρ Z fun x ad=>match x with
 |.m l=>te ρ ad fun y am=>(match y,am l with
  |.v (.list ys),some xs=>xs.length+ys.length<=1000/\Q (.v .none) (aD am l (xs++ys))
  |_,_=>False)
 |_=>False
theorem IY(ho:DE X o to)(ha:DE X e te)(hbase:attributeBase o "extend" X.env (eval o X.env)=eval o X.env:=by rfl)
  (hfew:((backTo cpos (starEach [e] X.env)).all (fun x=>!x.1)&&(backToKw cpos (keywordEach [] X.env)).all (fun x=>x.1.isSome)
   && decide ([e].length+([]:List Keyword).length+(if ([]:List Keyword).isEmpty then 0 else 1)<30))=true:=by rfl)
  (hline:(apos.endLine==cpos.line)=true:=by rfl) (hs:starEach [e] X.env=(false,eval e X.env)::starEach [] X.env:=by rfl) (hplain:(backTo cpos (starEach [] X.env)).any (·.1)=false:=by rfl) :
  DE X (.Call (.Attribute o "extend" apos) [e] [] cpos) (Oo to te):=by
 obtain⟨t1,p1,l1⟩:=ho
 obtain⟨t2,p2,l2⟩:=ha
 refine⟨_,Im plainAttrs_list PySem.F.slot_list_extend PySem.F.type_list_extend IW p1 (ko p2 vB hs) hbase hfew hline hs hplain,fun σ H ρ Z Qd Q S h k=>?_⟩
 refine l1 σ H ρ Z _ _ S h fun x ux ad H1 e1 S1 rx h1=>?_
 cases x with
 |m l=>
  obtain⟨rfl,ds,hm⟩:=id rx
  obtain⟨us,hl,rl⟩:=S1.mu l ds hm
  refine⟨.inl ⟨rfl,us,SqL.of hl⟩,?_⟩
  refine l2 σ H1 ρ ad _ _ S1 h1 fun y uy am H2 e2 S2 ry h2=>?_
  obtain⟨_,ds2,hm2⟩:=rx.ext S1.mu e2
  obtain⟨us2,hl2,rl2⟩:=S2.mu l ds2 hm2
  rw[hm2] at h2
  cases y with
  |v d=>
   cases d with
   |list ys=>
    have h3:ds2.length+ys.length<=1000/\Qd (.v .none) (aD am l (ds2++ys)):=h2
    cases ry with
    |@list b ws _ hb hn rb=>
     refine⟨l,b,us2,ws,rfl,rfl,hl2,hb,Hv (by rw[<- rl2.length,<- rb.length];exact h3.1),?_⟩
     have ex:Ext X.K am H2 (aD am l (ds2++ys)) (upd H2 l (.lst (us2++ws))):=iF hm2
     exact k (.v .none) .non _ _ (e1.trans (e2.trans ex)) ⟨S2.mu.set hm2 (rl2.append rb),S2.rho.ext S2.mu ex⟩ Rp.none h3.2
   |_=>exact h2.elim
  |m _=>exact h2.elim
  |s _=>exact h2.elim
  |o _=>exact h2.elim
  |b _=>exact h2.elim
  |q _=>exact h2.elim
 |v d=>exact h1.elim
 |s ns=>exact h1.elim
 |o _=>exact h1.elim
 |b _=>exact h1.elim
 |q _=>exact h1.elim
end
theorem kj{prog:Program}{w:World}{A:Around}{R:Result->Shared->Prop}{s:Shared}{elt target iter:Expr}{ifs:List Expr}{scope:Scope}{pos:Pos}{it acc:Value}{env:Env}(I:Nat->Shared->Prop)
  (turn:∀n s,I n s->wpAny (model prog w) A (pyNext it) (fun r ca=>match r with
   |none=>R (.ok .next) ca
   |some v=>wpAny (model prog w) A (letOwnedTupleGo target it v) (fun _ s'=>wpAny (model prog w) A (assign target env v) (fun _ gl=>
     wpAny (model prog w) A (forIn ifs true fun c r=>if r=true then do let ok <- isTrue c env (eval c env);pure (ForInStep.yield ok) else pure (ForInStep.yield r)) (fun ok bv=>
      if ok=true then wpAny (model prog w) A (eval elt env) (fun x nw=>
       wpAny (model prog w) A (call (.builtin "list.append") [acc,x]) (fun _ o0=>∃m,m<n/\I m o0) (fun _ _=>False) nw) (fun _ _=>False) bv
      else ∃m,m<n/\I m bv) (fun _ _=>False) gl) (fun _ _=>False) s') (fun _ _=>False) ca) (fun _ _=>False) s)
  (n:Nat) (h:I n s) :
  codeAny (model prog w) A (.compLoop (.ListComp elt [⟨target,iter,ifs,0⟩] scope pos) 0 it acc env) R s:=by
 refine codeAny_loop rfl I (fun n s hI=>?_) n h
 show wpAny _ A ((compTurn (.ListComp elt [⟨target,iter,ifs,0⟩] scope pos) 0 it acc env).onRaise (fun x=>do noteFrame x env;theTreesLotGoes x)) _ _ s
 refine wpAny_noted ?_
 rw[compTurn_list]
 refine wpAny_bind (wpAny_standAt (wpAny_bind (wpAny_mono (turn n s hI) (fun r ca dL=>?_) fun _ _ h'=>h'.elim)))
 cases r with
 |none=>exact wpAny_pure dL
 |some v=>
  refine wpAny_bind (wpAny_mono dL (fun _ s' h'=>?_) fun _ _ h'=>h'.elim)
  refine wpAny_bind (wpAny_mono h' (fun _ gl mt=>wpAny_bind (wpAny_mono mt (fun ok bv pd=>?_) fun _ _ h'=>h'.elim)) fun _ _ h'=>h'.elim)
  cases ok with
  |false=>exact wpAny_pure ⟨rfl,pd⟩
  |true=>
   exact wpAny_bind (wpAny_bind (wpAny_mono pd (fun x nw tt=>wpAny_bind (wpAny_mono tt (fun _ o0 ul=>wpAny_pure (wpAny_pure ⟨rfl,ul⟩)) fun _ _ h'=>h'.elim)) fun _ _ h'=>h'.elim))
section
variable {K:PySem.W.Frag}{Z U:Mu}{H:Hp}
mutual
theorem Rp.shrink{d:PyData}{u:V}(sub:∀a,U a=none->Z a=none):Rp K U H d u->Rp K Z H d u
 |.none=>.none
 |.bool b=>.bool b
 |.int i=>.int i
 |.str x=>.str x
 |.list h n r=>.list h (sub _ n) (RpL.shrink sub r)
 |.tuple h r=>.tuple h (RpL.shrink sub r)
theorem RpL.shrink{ds:List PyData}{us:List V}(sub:∀a,U a=none->Z a=none):RpL K U H ds us->RpL K Z H ds us
 |.nil=>.nil
 |.cons h r=>.cons (Rp.shrink sub h) (RpL.shrink sub r)
end
theorem iM.shrink{c:Box}{o:Obj}(sub:∀a,U a=none->Z a=none)(r:iM K U H c o):iM K Z H c o:=by
 cases c with
 |dict kvs=>
  obtain⟨h1,h2,es,ep,xs,h3,h4,h5,h6⟩:=r
  exact⟨h1,h2,es,ep,xs,h3,h4,h5,Paired.Nj h6 fun p q ⟨z1,z2,v,z3,z4⟩=>⟨z1,z2,v,Rp.shrink sub z3,z4⟩⟩
 |set ks=>exact r
end
theorem Kx{X:Cx}{e:Expr}{td:DTE}(h:∀(pins:List (Addr×Obj)) (s:Shared) (σ:St) (H:Hp) (ρ:Rho) (Z:Mu) (Qd:DK) (Q:VK),Inv X pins σ H s->St0 X.K H ρ Z σ->td ρ Z Qd ->
  (∀d u U H',Ext X.K Z H U H'->St0 X.K H' ρ U σ->RpD X.K U H' d u->Qd d U->Q u H')->wpAny (model X.prog X.w) X.A (eval e X.env) (EP X pins σ Q) X.xe s):DE X e td:=
 ⟨fun σ H Q=>∃ρ Z Qd,St0 X.K H ρ Z σ/\td ρ Z Qd/\(∀d u U H',Ext X.K Z H U H'->St0 X.K H' ρ U σ->RpD X.K U H' d u->Qd d U->Q u H'),
  fun pins s σ H Q I ⟨ρ,Z,Qd,S,q,k⟩=>h pins s σ H ρ Z Qd Q I S q k,fun σ H ρ Z Qd Q S q k=>⟨ρ,Z,Qd,S,q,k⟩⟩
noncomputable def aG(X:Cx)(N':List Str)(scope:Scope)(cl:List (Str×Addr))(fp:List Addr)(bv:Shared)(ce:Hp):Cx:=
 {X with N:=N',gV:=bv,H₀:=ce,env:=compEnvC scope cl bv.heap.objs.size X.env,outer:=X.stack,stack:=X.stack,ex:=fp,fn:=fun _=>false,pn:=X.pn,xe:=fun _ _=>False}
noncomputable def Le:Rho->Rho->Prop
 |[],[]=>True
 |none::r,_::r'=>Le r r'
 |some d::r,some d'::r'=>d=d'/\Le r r'
 |_,_=>False
theorem Le.get:∀{ρ be:Rho},Le ρ be->ρ.length=be.length/\∀(i:Nat) d,ρ[i]? = some (some d)->be[i]? = some (some d)
 |[],[],_=>⟨rfl,fun _ _ h=>h⟩
 |none::r,x::r',h=>by
  obtain⟨h1,h2⟩:=Le.get (ρ:=r) (be:=r') h
  refine⟨congrArg (· + 1) h1,fun i d e=>?_⟩
  cases i with
  |zero=>simp at e
  |succ j=>exact h2 j d (by simpa using e)
 |some d::r,some d'::r',h=>by
  obtain⟨rfl,h⟩:=h
  obtain⟨h1,h2⟩:=Le.get (ρ:=r) (be:=r') h
  refine⟨congrArg (· + 1) h1,fun i d e=>?_⟩
  cases i with
  |zero=>simpa using e
  |succ j=>exact h2 j d (by simpa using e)
 |some d::r,none::r',h=>h.elim
 |[],_::_,h=>h.elim
 |none::_,[],h=>h.elim
 |some _::_,[],h=>h.elim
noncomputable def bu{α:Type}(cap:List (Option Nat))(ρ:List (Option α)):List (Option α):=cap.map fun o=>o.bind fun j=>(ρ[j]?).join
noncomputable def nN(cap:List (Option Nat))(src:DTI)(g:DTG)(c:DTT)(elt:DTE):DTE:=fun ρ Z Q=>src ρ Z fun xs ad=>xs.length<=1000/\∃f:PyData->Option PyData,
 (∀x∈xs,∀U:Mu,(∀a ds,ad a=some ds->U a=some ds)->g (.v x) (bu cap ρ) U fun ci am=>Le (bu cap ρ) ci/\c ci am fun b bi=>
  if b=true then elt ci bi fun d db=>db=U/\(match d with|.v y=>f x=some y|_=>False) else bi=U/\f x=none)/\Q (.v (.list (xs.filterMap f))) ad
noncomputable def Er(X:Cx)(ifs:List Expr)(c:DTT):Prop:=∀(pins:List (Addr×Obj)) (s:Shared) (σ:St) (H:Hp) (ρ:Rho) (Z:Mu) (Qd:Bool->Mu->Prop) (Q:Bool->Hp->Prop),Inv X pins σ H s->St0 X.K H ρ Z σ->c ρ Z Qd ->
 (∀b U H',Ext X.K Z H U H'->St0 X.K H' ρ U σ->Qd b U->Q b H') ->
 wpAny (model X.prog X.w) X.A (forIn ifs true fun c r=>if r=true then do let ok <- isTrue c X.env (eval c X.env);pure (ForInStep.yield ok) else pure (ForInStep.yield r)) (TP X pins σ Q) X.xe s
noncomputable def gp:DTT:=fun _ Z Q=>Q true Z
theorem bV{X:Cx}:Er X [] gp:=fun pins s σ H ρ Z Qd Q I S h k=>wpAny_tests_nil ⟨H,I,k true Z H .refl S h⟩
theorem Kf{X:Cx}{c:Expr}{tc:DTT}(h:DT X c tc):Er X [c] tc:=by
 obtain⟨t,p,l⟩:=h
 exact fun pins s σ H ρ Z Qd Q I S h k=>wpAny_tests_one (p pins s σ H _ I (l σ H ρ Z _ _ S h k))
theorem Un.after{fs ex:List Addr}{H H1:Hp}{h h1 h':Heap}(u:Un fs ex H H1 h h1)(k:∀b o,b<h.objs.size->h1.get? b=some o->h'.get? b=some o):Un fs ex H H1 h h':=
 ⟨fun b o e n hb hx=>k b o (Heap.lt_size e) (u.keep b o e n hb hx),fun b o e n hb hx=>let ⟨sl,q⟩:=u.slot b o e n hb hx;⟨sl,k b _ (Heap.lt_size e) q⟩,u.free,fun b o e hx=>let ⟨o',q⟩:=u.there b o e hx;⟨o',k b _ (Heap.lt_size e) q⟩,u.wW,u.uI,u.uA⟩
theorem oT{α:Type}{cap:List (Option Nat)}{ρ:List (Option α)}{i:Nat}{d:α}(h:(bu cap ρ)[i]? = some (some d)):∃j,cap[i]? = some (some j)/\ρ[j]? = some (some d):=by
 unfold bu at h
 rw[getElem?_map] at h
 cases q:cap[i]? with
 |none=>rw[q] at h;cases h
 |some o=>
  rw[q] at h
  cases o with
  |none=>cases h
  |some j=>
   refine⟨j,rfl,?_⟩
   simp only[map_some,bind_some,Option.some.injEq] at h
   cases z:ρ[j]? with
   |none=>rw[z] at h;cases h
   |some y=>rw[z] at h;simp only[join_some] at h;rw[h]
theorem L5{α:Type}{cap:List (Option Nat)}{ρ:List (Option α)}{i j:Nat}{d:α}(h:cap[i]? = some (some j))(e:ρ[j]? = some (some d)):(bu cap ρ)[i]? = some (some d):=by
 unfold bu
 rw[getElem?_map,h]
 simp[e]
theorem iQ.cap{K:PySem.W.Frag}{Z:Mu}{H:Hp}{ρ:Rho}{σ:St}{cap:List (Option Nat)}(r:iQ K Z H ρ σ):iQ K Z H (bu cap ρ) (bu cap σ):=by
 refine⟨by unfold bu;simp,fun i d e=>?_⟩
 obtain⟨j,h1,h2⟩:=oT e
 obtain⟨u,h3,h4⟩:=r.2 j d h2
 exact⟨u,L5 h1 h3,h4⟩
theorem iQ.le{K:PySem.W.Frag}{Z:Mu}{H:Hp}{ρ be:Rho}{σ:St}(r:iQ K Z H be σ)(l:Le ρ be):iQ K Z H ρ σ:=
 ⟨l.get.1.trans r.1,fun i d e=>r.2 i d (l.get.2 i d e)⟩
theorem BO{xs:List PyData}{f:PyData->Option PyData}{i:Nat}{d:PyData}(h:xs[i]? = some d):(xs.take (i+1)).filterMap f=(xs.take i).filterMap f++(f d).toList:=by
 obtain⟨hi,e⟩:=List.getElem?_eq_some_iff.mp h
 rw[List.take_succ_eq_append_getElem hi,List.filterMap_append,e]
 cases q:f d<;>simp[q]
section
variable {X:Cx}{a b c:Expr}{ta tb tc:DTE}{pos:Pos}
noncomputable def GP(r r':D->D->Mu->DK->Prop)(ta tb tc:DTE):DTE:=fun ρ Z Q=>ta ρ Z fun x ad=>tb ρ ad fun y am=>r x y am fun z bi=>match z with
 |.v (.bool k)=>if k=true then tc ρ bi fun w db=>r' y w db Q else Q (.v (.bool false)) bi
 |_=>False
end
theorem A1{α:Type}{x:α}{xs:List α}:atI (x::xs) 0=some x:=by unfold atI ixN;simp
theorem AU{α:Type}{x y:α}{xs:List α}:atI (x::y::xs) 1=some y:=by
 have h:=mQ (xs:=x::y::xs) (j:=1) (v:=y) rfl
 exact h
theorem Fg{α:Type}{x y z:α}{xs:List α}:atI (x::y::z::xs) 2=some z:=by
 have h:=mQ (xs:=x::y::z::xs) (j:=2) (v:=z) rfl
 exact h
theorem IB{α:Type}{x y z u:α}{xs:List α}:atI (x::y::z::u::xs) 3=some u:=by
 have h:=mQ (xs:=x::y::z::u::xs) (j:=3) (v:=u) rfl
 exact h
noncomputable def Sv:D->D->Mu->DK->Prop:=fun x y Z Q=>match x,y with
 |.v (.int i),.v (.int j)=>Q (.v (.int (i+j))) Z
 |.v (.tuple xs),.v (.tuple ys)=>xs.length+ys.length<=1000/\Q (.v (.tuple (xs++ys))) Z
 |_,_=>N2 x y Z Q
section
variable {ρ:Rho}{Z:Mu}{Q:DK}{QT:Bool->Mu->Prop}{QA:List D->Mu->Prop}{QG:Rho->Mu->Prop}{QI:List PyData->Mu->Prop}{QO:Option Int->Mu->Prop}{Dd:AX}{ta tb tc:DTE}{t u:DTT}{tA:DTA}{s1 s2:DTS}{i j:Int}{x y:PyData}{xs ys:List PyData}{d e:D}
noncomputable def CH:DTS:=fun _ _ _=>False
theorem Fs{X:Cx}{st:Stmt}:DS X st CH:=⟨fun _ _ _=>False,fun _ _ _ _ _ _ h=>h.elim,fun _ _ _ _ _ _ _ h=>h.elim⟩
theorem GZ{o:Rho}:ah 0 (some d::o) Z Q=Q d Z:=propext Iff.rfl
theorem FT{a}{o:Rho}:ah 1 (a::some d::o) Z Q=Q d Z:=propext Iff.rfl
theorem FD{a b}{o:Rho}:ah 2 (a::b::some d::o) Z Q=Q d Z:=propext Iff.rfl
theorem Gu{a b c}{o:Rho}:ah 3 (a::b::c::some d::o) Z Q=Q d Z:=propext Iff.rfl
theorem GB{a b c f}{o:Rho}:ah 4 (a::b::c::f::some d::o) Z Q=Q d Z:=propext Iff.rfl
theorem FW{a b c f g}{o:Rho}:ah 5 (a::b::c::f::g::some d::o) Z Q=Q d Z:=propext Iff.rfl
theorem GF{a b c f g h}{o:Rho}:ah 6 (a::b::c::f::g::h::some d::o) Z Q=Q d Z:=propext Iff.rfl
theorem GQ{a b c f g h k}{o:Rho}:ah 7 (a::b::c::f::g::h::k::some d::o) Z Q=Q d Z:=propext Iff.rfl
theorem FL{a b c f g h k l}{o:Rho}:ah 8 (a::b::c::f::g::h::k::l::some d::o) Z Q=Q d Z:=propext Iff.rfl
theorem GV{a b c f g h k l m}{o:Rho}:ah 9 (a::b::c::f::g::h::k::l::m::some d::o) Z Q=Q d Z:=propext Iff.rfl
theorem B9{a b c f g h k l m n}{o:Rho}:ah 10 (a::b::c::f::g::h::k::l::m::n::some d::o) Z Q=Q d Z:=propext Iff.rfl
theorem q_c:dC x ρ Z Q=Q (.v x) Z:=propext Iff.rfl
theorem QY{r}:dOp r ta tb ρ Z Q=ta ρ Z fun x ad=>tb ρ ad fun y am=>r x y am Q:=propext Iff.rfl
theorem q_B:dB ta ρ Z QT=ta ρ Z fun d ad=>match d with|.v (.bool k)=>QT k ad|_=>False:=propext Iff.rfl
theorem Pc{C:Int->Int->Prop}{g:Int->Int->PyData}:rII C g (.v (.int i)) (.v (.int j)) Z Q=(C i j/\Q (.v (g i j)) Z):=propext Iff.rfl
theorem Mr{g:Int->Int->PyData}:AH g (.v (.int i)) (.v (.int j)) Z Q=Q (.v (g i j)) Z:=propext Iff.rfl
theorem Lw:qL ta ρ Z Q=ta ρ Z fun x ad=>match x with|.v (.int i)=>Q (.v (.int (-i))) ad|_=>False:=propext Iff.rfl
theorem Ka:y6 t u ρ Z QT=t ρ Z fun c ad=>if c=true then u ρ ad QT else QT false ad:=propext Iff.rfl
theorem N4:fZ t u ρ Z QT=t ρ Z fun c ad=>if c=true then QT true ad else u ρ ad QT:=propext Iff.rfl
theorem Ga:du t ρ Z QT=t ρ Z fun c ad=>QT (!c) ad:=propext Iff.rfl
theorem KI:kA ta tb ρ Z Q=ta ρ Z fun x ad=>match x with|.v (.bool c)=>if c=true then tb ρ ad Q else Q (.v (.bool false)) ad|_=>False:=propext Iff.rfl
theorem G8:KR ta ρ Z Q=ta ρ Z fun x ad=>match x with|.v (.bool c)=>Q (.v (.bool (!c))) ad|_=>False:=propext Iff.rfl
theorem QB:dIf t ta tb ρ Z Q=t ρ Z fun c ad=>if c=true then ta ρ ad Q else tb ρ ad Q:=propext Iff.rfl
theorem KA:aw ρ Z QA=QA [] Z:=propext Iff.rfl
theorem Gz:ag ta tA ρ Z QA=ta ρ Z fun x ad=>tA ρ ad fun xs am=>QA (x::xs) am:=propext Iff.rfl
theorem Kp:bT tA ρ Z Q=tA ρ Z fun ds ad=>match cY ds with|some xs=>Q (.v (.tuple xs)) ad|none=>False:=propext Iff.rfl
theorem Lc:wB tA ρ Z Q=tA ρ Z fun ds ad=>match cY ds with|some xs=>Q (.v (.list xs)) ad|none=>False:=propext Iff.rfl
theorem Hk:qx tA ρ Z Q=tA ρ Z fun ds ad=>match cY ds with|some xs=>∀p,ad p=none->Q (.m p) (aD ad p xs)|none=>False:=propext Iff.rfl
theorem LH:cY []=some []:=by rw[cY]
theorem Kb{r:List D}:cY (.v x::r)=(cY r).map (x::·):=by rw[cY]
theorem N9{neg:Bool}:cM neg (.v x) (.v y) Z Q=(SeqAt.shaped x=true/\SeqAt.shaped y=true/\Q (.v (.bool (neg ^^ PyData.eqv x y))) Z):=propext Iff.rfl
theorem Mj{neg:Bool}:cM neg (.v (.int i)) (.v (.int j)) Z Q=Q (.v (.bool (neg ^^ decide (i=j)))) Z:=by
 have e:PyData.eqv (.int i) (.int j)=decide (i=j):=by simp[PyData.eqv];rfl
 rw[N9,e]
 exact propext ⟨fun h=>h.2.2,fun h=>⟨rfl,rfl,h⟩⟩
theorem Ip{neg:Bool}:cM neg (.v (.tuple xs)) (.v (.tuple ys)) Z Q=(SeqAt.shaped (.tuple xs)=true/\SeqAt.shaped (.tuple ys)=true/\Q (.v (.bool (neg ^^ PyData.eqv (.tuple xs) (.tuple ys)))) Z):=propext Iff.rfl
theorem Ki{neg:Bool}:Nw neg (.v x) (.v (.list ys)) Z Q=(PyData.canLayAll0 ys=true/\x.canLay0=true/\PyData.depth x<=60/\Q (.v (.bool (neg ^^ ys.any fun b=>PyData.eqv b x))) Z):=propext Iff.rfl
theorem A7:aM (.v (.list xs)) (.v (.int i)) Z Q=(match atI xs i with|some d=>Q (.v d) Z|none=>False):=propext Iff.rfl
theorem xy:aM (.v (.tuple xs)) (.v (.int i)) Z Q=(match atI xs i with|some d=>Q (.v d) Z|none=>False):=propext Iff.rfl
theorem Lm{l:Addr}:aM (.m l) (.v (.int i)) Z Q=(match Z l with|some xs=>(match atI xs i with|some d=>Q (.v d) Z|none=>False)|none=>False):=propext Iff.rfl
theorem KN{ns:List Int}:aM (.s ns) (.v (.int i)) Z Q=(match atI ns i with|some d=>Q (.v (.int d)) Z|none=>False):=propext Iff.rfl
theorem FJ:aM (.v (.list (x::xs))) (.v (.int 0)) Z Q=Q (.v x) Z:=by rw[A7,A1]
theorem Dc:aM (.v (.tuple (x::xs))) (.v (.int 0)) Z Q=Q (.v x) Z:=by rw[xy,A1]
theorem Gk{z}:aM (.v (.list (z::x::xs))) (.v (.int 1)) Z Q=Q (.v x) Z:=by rw[A7,AU]
theorem Cn{z}:aM (.v (.tuple (z::x::xs))) (.v (.int 1)) Z Q=Q (.v x) Z:=by rw[xy,AU]
theorem GA{z w}:aM (.v (.list (z::w::x::xs))) (.v (.int 2)) Z Q=Q (.v x) Z:=by rw[A7,Fg]
theorem Cq{z w}:aM (.v (.tuple (z::w::x::xs))) (.v (.int 2)) Z Q=Q (.v x) Z:=by rw[xy,Fg]
theorem FP{z w v}:aM (.v (.tuple (z::w::v::x::xs))) (.v (.int 3)) Z Q=Q (.v x) Z:=by rw[xy,IB]
theorem MC:N2 d e Z Q=(match xU Z d,xU Z e with|some xs,some ys=>xs.length+ys.length<=1000/\Q (.v (.list (xs++ys))) Z|_,_=>False):=propext Iff.rfl
theorem QM{rd}:dCB rd tA ρ Z Q=tA ρ Z fun ds ad=>rd ds ad Q:=propext Iff.rfl
theorem FK:dw [.v (.list ys)] Z Q=Q (.v (.int (ys.length:Nat))) Z:=propext Iff.rfl
theorem GS:dw [.v (.tuple ys)] Z Q=Q (.v (.int (ys.length:Nat))) Z:=propext Iff.rfl
theorem Gd{ns:List Int}:dw [.s ns] Z Q=Q (.v (.int (ns.length:Nat))) Z:=propext Iff.rfl
theorem Ha{l:Addr}:dw [.m l] Z Q=(match Z l with|some ys=>Q (.v (.int (ys.length:Nat))) Z|none=>False):=propext Iff.rfl
theorem LM:tW [.v (.int i)] Z Q=Q (.v (.int (i.natAbs:Nat))) Z:=propext Iff.rfl
theorem OX{g:Int->Int->Int}:CL g [.v (.int i),.v (.int j)] Z Q=Q (.v (.int (g i j))) Z:=propext Iff.rfl
theorem G6{k:Bool}:tp [.v (.bool k)] Z Q=Q (.v (.int (if k then 1 else 0))) Z:=propext Iff.rfl
theorem KL:vV [.v (.list ys)] Z Q=(match cX ys with|some bs=>Q (.v (.bool (bs.all id))) Z|none=>False):=propext Iff.rfl
theorem La{T:String}:wX T ta ρ Z Q=ta ρ Z fun x ad=>match x with|.v d=>Q (.v (.bool (isT T d))) ad|_=>False:=propext Iff.rfl
theorem BI{n:Nat}:ao n d ρ Z QG=QG (ρ.set n (some d)) Z:=propext Iff.rfl
theorem Gf:bY [] ρ Z QG=QG ρ Z:=propext Iff.rfl
theorem C1{g:DTG}{gs:Au}:aA g gs (x::xs) ρ Z QG=g (.v x) ρ Z fun tz ad=>gs xs tz ad QG:=propext Iff.rfl
theorem FY{n:Nat}{gs:Au}:bU n gs (.v (.tuple xs)) ρ Z QG=(xs.length=n/\gs xs ρ Z QG):=propext Iff.rfl
theorem GX:HX ta tb d ρ Z QG=ta ρ Z fun o ad=>tb ρ ad fun i am=>match o,i,d with
 |.m l,.v (.int k),.v x=>(match am l with
  |some xs=>(match ixN xs.length k with
   |some j=>QG ρ (aD am l (xs.set j x))
   |none=>False)
  |none=>False)
 |_,_,_=>False:=propext Iff.rfl
theorem N7{g:DTG}:bc ta g Dd ρ Z=ta ρ Z fun d ad=>g d ρ ad Dd.nx:=propext Iff.rfl
theorem Lv{i j:Nat}:Cu i j tA Dd ρ Z=tA ρ Z fun ds ad=>match ds with|[v,w]=>Dd.nx ((ρ.set i (some v)).set j (some w)) ad|_=>False:=propext Iff.rfl
theorem Hl:bA Dd ρ Z=Dd.nx ρ Z:=propext Iff.rfl
theorem LA:aK s1 s2 Dd ρ Z=s1 {Dd with nx:=s2 Dd} ρ Z:=propext Iff.rfl
theorem Ls:bb ta Dd ρ Z=ta ρ Z Dd.rt:=propext Iff.rfl
theorem GY:nE ta Dd ρ Z=ta ρ Z fun _ ad=>Dd.nx ρ ad:=propext Iff.rfl
theorem Ob:cF t s1 s2 Dd ρ Z=t ρ Z fun b ad=>if b=true then s1 Dd ρ ad else s2 Dd ρ ad:=propext Iff.rfl
theorem B0:CH Dd ρ Z=False:=propext Iff.rfl
theorem Mm{dsp:DSp}:az dsp tA ρ Z Q=tA ρ Z fun ds ad=>dsp ds ad Q:=propext Iff.rfl
theorem K1:Jf ta tb ρ Z Q=ta ρ Z fun x ad=>match x with
 |.m l=>tb ρ ad fun y am=>(match y,am l with
  |.v d,some xs=>xs.length<1000/\Q (.v .none) (aD am l (xs++[d]))
  |_,_=>False)
 |_=>False:=propext Iff.rfl
theorem Lf:Oo ta tb ρ Z Q=ta ρ Z fun x ad=>match x with
 |.m l=>tb ρ ad fun y am=>(match y,am l with
  |.v (.list ys),some xs=>xs.length+ys.length<=1000/\Q (.v .none) (aD am l (xs++ys))
  |_,_=>False)
 |_=>False:=propext Iff.rfl
theorem GG:gp ρ Z QT=QT true Z:=propext Iff.rfl
theorem yL:jd ta ρ Z QI=ta ρ Z fun d ad=>match d with|.v (.list xs)=>QI xs ad|_=>False:=propext Iff.rfl
theorem CQ:gR ta ρ Z QI=ta ρ Z fun d ad=>match d with|.v (.tuple xs)=>QI xs ad|_=>False:=propext Iff.rfl
theorem yE:oR tA ρ Z QI=tA ρ Z fun ds ad=>match ds with|[.v (.int j)]=>(-(2 ^ 62)<=j/\j<2 ^ 62)/\QI (og 0 j.toNat) ad|_=>False:=propext Iff.rfl
theorem x9:qN tA ρ Z QI=tA ρ Z fun ds ad=>match ds with|[.v (.int i),.v (.int j)]=>(-(2 ^ 62)<=i/\i<2 ^ 62/\-(2 ^ 62)<=j/\j<2 ^ 62)/\QI (og i (j-i).toNat) ad|_=>False:=propext Iff.rfl
theorem jj{src:DTI}{g:DTG}:nU src g s1 Dd ρ Z=src ρ Z fun xs ad=>∃Pv:Nat->Rho->Mu->Prop,Pv 0 ρ ad /\
 (∀i x be U,xs[i]? = some x->Pv i be U->g (.v x) be U fun ci am=>s1 {Dd with nx:=Pv (i+1),ct:=Pv (i+1),bk:=Dd.nx} ci am)/\(∀be U,Pv xs.length be U->Dd.nx be U):=propext Iff.rfl
theorem kU{cap:List (Option Nat)}{src:DTI}{g:DTG}:nN cap src g t ta ρ Z Q=src ρ Z fun xs ad=>xs.length<=1000/\∃f:PyData->Option PyData,
 (∀x∈xs,∀U:Mu,(∀a ds,ad a=some ds->U a=some ds)->g (.v x) (bu cap ρ) U fun ci am=>Le (bu cap ρ) ci/\t ci am fun b bi=>
  if b=true then ta ci bi fun d db=>db=U/\(match d with|.v y=>f x=some y|_=>False) else bi=U/\f x=none)/\Q (.v (.list (xs.filterMap f))) ad:=propext Iff.rfl
theorem FZ{α:Type}{r:List (Option α)}:bu [] r=[]:=rfl
theorem Gv{α:Type}{o:Option Nat}{c:List (Option Nat)}{r:List (Option α)}:bu (o::c) r=(o.bind fun j=>(r[j]?).join)::bu c r:=rfl
theorem Mh:Le [] []=True:=propext ⟨fun _=>trivial,fun h=>h⟩
theorem Mi{r r':Rho}{o:Option D}:Le (none::r) (o::r')=Le r r':=propext Iff.rfl
theorem LL{r r':Rho}{d d':D}:Le (some d::r) (some d'::r')=(d=d'/\Le r r'):=propext Iff.rfl
theorem vX{α:Type}(p:α->Bool):∀xs:List α,cX (xs.map fun x=>PyData.bool (p x))=some (xs.map p)
 |[]=>rfl
 |x::r=>by rw[map_cons,cX,vX p r];rfl
theorem Ik{α β:Type}(p:α->β):∀xs:List α,xs.filterMap (fun x=>some (p x))=xs.map p
 |[]=>rfl
 |x::r=>by rw[filterMap_cons,Ik p r];rfl
theorem Cc:qA t s1 Dd ρ Z=(∃W:Nat->Rho->Mu->Prop,(∃m,W m ρ Z)/\∀m ρ Z,W m ρ Z ->
 t ρ Z fun b ad=>if b=true then s1 {Dd with nx:=fun be U=>∃m',m'<m/\W m' be U,ct:=fun be U=>∃m',m'<m/\W m' be U,bk:=Dd.nx} ρ ad else Dd.nx ρ ad):=propext Iff.rfl
end
theorem Kn{α β:Type}[BEq α][LawfulBEq α]{x:α}{k:β}:∀{l:List (α×β)},l.lookup x=some k->(x,k)∈l
 |[],h=>by cases h
 |(y,j)::r,h=>by
  rw[lookup_cons] at h
  cases e:x==y with
  |true=>
   rw[e] at h
   simp only[Option.some.injEq] at h
   have:x=y:=eq_of_beq e
   subst this h
   exact mem_cons_self
  |false=>
   rw[e] at h
   exact mem_cons_of_mem _ (Kn h)
noncomputable def cfK:NameKind->Bool
 |.cell=>true
 |.free=>true
 |_=>false
theorem dh{names:List (Str×NameKind)}{cl:List (Str×Addr)}(h:(names.all fun y=>!(cfK y.2) || (cl.lookup y.1).isSome)=true)(x:Str)(hx:names.lookup x=some .cell\/names.lookup x=some .free):∃a,cl.lookup x=some a:=by
 rw[List.all_eq_true] at h
 have key:∀k,cfK k=true->names.lookup x=some k->∃a,cl.lookup x=some a:=fun k hk e=>by
  have q:=h _ (Kn e)
  simp only[hk,Bool.not_true,Bool.false_or] at q
  exact Option.isSome_iff_exists.mp q
 rcases hx with e|e
 ·exact key _ rfl e
 ·exact key _ rfl e
noncomputable def JX(X:Cx)(sc:Scope):List (Option Nat)->List Str->Prop
 |none::c,_::n=>JX X sc c n
 |some j::c,x::n=>(X.N[j]? = some x/\Vis X.env.scope x/\X.env.kindOf x≠some .local/\((relabel sc X.env).names.lookup x=some .cell\/(relabel sc X.env).names.lookup x=some .free))/\JX X sc c n
 |_,_=>True
theorem cN{X:Cx}{sc:Scope}:∀{c:List (Option Nat)} {n:List Str},JX X sc c n->∀(i j:Nat) (x:Str),c[i]? = some (some j)->n[i]? = some x ->
  X.N[j]? = some x/\Vis X.env.scope x/\X.env.kindOf x≠some .local/\((relabel sc X.env).names.lookup x=some .cell\/(relabel sc X.env).names.lookup x=some .free)
 |[],_,_,i,j,x,h,_=>by simp at h
 |_::_,[],_,i,j,x,_,h=>by simp at h
 |none::c,y::n,k,0,j,x,h,_=>by simp at h
 |none::c,y::n,k,i+1,j,x,h,g=>cN (c:=c) (n:=n) k i j x (by simpa using h) (by simpa using g)
 |some l::c,y::n,k,0,j,x,h,g=>by
  simp only[List.getElem?_cons_zero,Option.some.injEq] at h g
  subst h g
  exact k.1
 |some l::c,y::n,k,i+1,j,x,h,g=>cN (c:=c) (n:=n) k.2 i j x (by simpa using h) (by simpa using g)
theorem vd{X:Cx}{sc:Scope}{j:Nat}{x:Str}(h1:X.N[j]? = some x:=by rfl)(h2:Vis X.env.scope x:=by first|exact Or.inl rfl|exact Or.inr (Or.inl rfl)|exact Or.inr (Or.inr rfl))(h3:X.env.kindOf x≠some .local:=by first|(intro z;cases z)|exact (fun z=>nomatch z))
  (h4:(relabel sc X.env).names.lookup x=some .cell\/(relabel sc X.env).names.lookup x=some .free:=by first|exact Or.inl rfl|exact Or.inr rfl):X.N[j]? = some x/\Vis X.env.scope x/\X.env.kindOf x≠some .local/\((relabel sc X.env).names.lookup x=some .cell\/(relabel sc X.env).names.lookup x=some .free):=⟨h1,h2,h3,h4⟩
noncomputable def lI(Z:Mu)(p:Addr):Mu:=⟨fun b=>if b=p then none else Z b,Z.b⟩
theorem iP{Z:Mu}{p b:Addr}(h:b≠p):lI Z p b=Z b:=if_neg h
theorem jE{Z:Mu}{p:Addr}:lI Z p p=none:=if_pos rfl
noncomputable def jW(cap:List (Option Nat))(src:DTI)(g:DTG)(c:DTT)(elt:DTE):DTE:=fun ρ Z Q=>src ρ Z fun xs ad=>xs.length<=1000/\∀p,ad p=none->∃Pv:Nat->List PyData->Mu->Prop,Pv 0 [] (aD ad p []) /\
 (∀i x acc U,xs[i]? = some x->U p=some acc->Pv i acc U->g (.v x) (bu cap ρ) U fun ci am=>Le (bu cap ρ) ci/\c ci am fun b bi=>
  if b=true then elt ci bi fun d db=>db p=some acc/\(match d with|.v y=>Pv (i+1) (acc++[y]) (aD db p (acc++[y]))|_=>False) else bi p=some acc/\Pv (i+1) acc bi) /\
 (∀acc U,Pv xs.length acc U->U p=some acc->Q (.v (.list acc)) (lI U p))
theorem Ba{X:Cx}{pos2:Pos}{use:Option (Value->Sem Unit)}{QQ:Value->Shared->Prop}{pins:List (Addr×Obj)}{s:Shared}{σ:St}{H:Hp}{ρ:Rho}{Z:Mu}{Qd:DK}{N':List Str}{scope:Scope}{cl:List (Str×Addr)}{elt iter tg:Expr}{ifs:List Expr}{pos:Pos}{cap:List (Option Nat)}{src:DTI}{g:DTG}{c:DTT}{te:DTE}(hc:X.calm=X.calm)
  (hi:DI X tg iter src) (hg:∀fp bv ce,DG (aG X N' scope cl fp bv ce) tg g) (hif:∀fp bv ce,Er (aG X N' scope cl fp bv ce) ifs c) (he:∀fp bv ce,DE (aG X N' scope cl fp bv ce) elt te)
  (hclos:closureFor scope X.env=pure cl) (hcell:∀y∈scope.names,y.2≠.cell) (hkind:scope.kind = .function) (hnames:∀y∈scope.names,y.2 = .local->scope.names.lookup y.1=some .local)
  (hcl:∀x a,cl.lookup x=some a->X.env.cells.lookup x=some a) (hhas:∀x,(relabel scope X.env).names.lookup x=some .cell\/(relabel scope X.env).names.lookup x=some .free->∃a,cl.lookup x=some a)
  (hlen:cap.length=N'.length) (hcap:∀(i j:Nat) (x:Str),cap[i]? = some (some j)->N'[i]? = some x->X.N[j]? = some x/\Vis X.env.scope x/\X.env.kindOf x≠some .local/\((relabel scope X.env).names.lookup x=some .cell\/(relabel scope X.env).names.lookup x=some .free))
  (hs:∀x,foldedSetIterable iter X.env x=pure x )
  (I:Inv X pins σ H s) (S:St0 X.K H ρ Z σ) (h:jW cap src g c te ρ Z Qd)
  (hend:∀(s4:Shared) (Hc:Hp) (C pa:Addr) (m:Str->Option Value) (acc:List PyData) (re:Mu),s4.heap.Ns C m->qT X pins Hc C->(∀h',Heap.SameBut C s4.heap h'->Inv X pins σ Hc {s4 with heap:=h'}) ->
   Ext X.K Z H re Hc->St0 X.K Hc ρ re σ->Rp X.K re Hc (.list acc) (.ref pa)->Qd (.v (.list acc)) re->compPost (model X.prog X.w) X.A X.xe use QQ (.ref pa) C (.ok .next) s4) :
  wpAny (model X.prog X.w) X.A (comprehension (.ListComp elt [⟨tg,iter,ifs,0⟩] scope pos) scope X.env pos2 (newList []) false (eval iter X.env) use) QQ X.xe s:=by
 obtain⟨wi,pw,li⟩:=hi
 refine wpAny_comprehension_free rfl hs hclos hkind hnames (thn (pw pins s σ H _ I (li σ H ρ Z _ (fun J H1=>∃xs ad,Ext X.K Z H ad H1/\St0 X.K H1 ρ ad σ/\Jw X.K J xs ad H1/\xs.length<=1000/\∀p,ad p=none->∃Pv:Nat->List PyData->Mu->Prop,Pv 0 [] (aD ad p []) /\
   (∀i x acc U,xs[i]? = some x->U p=some acc->Pv i acc U->g (.v x) (bu cap ρ) U fun ci am=>Le (bu cap ρ) ci/\c ci am fun b bi=>
    if b=true then te ci bi fun d db=>db p=some acc/\(match d with|.v y=>Pv (i+1) (acc++[y]) (aD db p (acc++[y]))|_=>False) else bi p=some acc/\Pv (i+1) acc bi) /\
   (∀acc U,Pv xs.length acc U->U p=some acc->Qd (.v (.list acc)) (lI U p))) S h (fun xs ad H1 J e1 S1 it q=>⟨xs,ad,e1,S1,it,q⟩)))
  fun v s1 h1=>thn h1 fun itv s2 h2=>?_)
 obtain⟨it,fp,tn,J,H2,rfl,I2,T,st2,f2,xs,ad,e1,S1,itok,hxs,allp⟩:=h2
 refine wpAny_newObj_type (wpAny_newFunctionEnv hcell (by intro y hy;simp at hy) (fun dL ii io=>?_) hkind)
 dsimp only at ii io ⊢
 have hfree2:H2 s2.heap.objs.size=none:=I2.hok.fresh (le_refl _)
 have hK2:X.K.lookup s2.heap.objs.size=none:=by
  cases z:X.K.lookup s2.heap.objs.size with
  |none=>rfl
  |some o=>exact absurd (Heap.lt_size (I2.kIn _ _ z)) (lt_irrefl _)
 have I3:Inv X pins σ (upd H2 s2.heap.objs.size (.lst [])) {s2 with heap:=s2.heap.push {cls:=.type "list",dict:=none,data:=.seq ([]:List Value).toArray}}:=
  I2.laid (t':=s2.toks) (fun b u e=>Heap.get?_push_of_some _ e) (le_refl _) ⟨zero_le _,[],0,.nil,Heap.get?_push_size _ rfl⟩
 generalize hH:s2.heap.push {cls:=.type "list",dict:=none,data:=.seq ([]:List Value).toArray} = hp3 at ii io I3 ⊢
 have hsz3:hp3.objs.size=s2.heap.objs.size+1:=by rw[<- hH,Heap.size_push]
 have kept3:∀b o,hp3.get? b=some o->dL.get? b=some o:=fun b o e=>io.extBut b o (ne_of_lt (Heap.lt_size e)) (Heap.get?_push_of_some _ e)
 have old3:∀b o,s2.heap.get? b=some o->hp3.get? b=some o:=fun b o e=>by rw[<- hH];exact Heap.get?_push_of_some _ e
 have fplt:∀b∈fp,b<s2.heap.objs.size:=fun b hb=>by obtain⟨o,e,_⟩:=T.obj 0 _ st2 b hb;exact Heap.lt_size e
 have fpst:∀b∈fp,b ∉ frs X.stack:=fun b hb hz=>by
  rcases List.mem_cons.mp (I2.lz b hz) with e|e
  ·exact (f2 b hb).2.1 e
  ·exact (f2 b hb).2.2.1 e
 obtain⟨s3,hs3⟩:∃s3:Shared,s3={s2 with heap:=hp3}:=⟨_,rfl⟩
 obtain⟨H3,hH3⟩:∃H3:Hp,H3=upd H2 s2.heap.objs.size (.lst []):=⟨_,rfl⟩
 have heap3:s3.heap=hp3:=by rw[hs3]
 rw[<- hH3] at I3
 have I3':Inv X pins σ H3 s3:=by rw[hs3];exact I3
 have hloc:H3 hp3.objs.size=none:=by have:=I3'.hok.fresh (a:=hp3.objs.size) (by rw[heap3];exact le_refl _);exact this
 have okc:(aG X N' scope cl fp s3 H3).Ok:=by
  refine⟨I3.ok.mod,?_,I3.ok.glob,I3.ok.blt,le_refl _,fun x y a h1 h2=>I3.ok.inj x y a (hcl x a h1) (hcl y a h2),fun x hx=>hhas x hx,fun x a h=>(nomatch h),I3.ok.hd,I3.ok.qt,I3.ok.frames,.inl rfl,fun b hb=>⟨?_,fun x a h=>(f2 b hb).2.2.2.2.1 x a (hcl x a h)⟩,
   I3'.bs,le_trans I3.ok.bsz I3'.sz,fun b o e hb=>?_,fun b hb=>fpst b hb,I3'.stack,I3'.tL⟩
  ·exact hkind
  ·show b≠s3.heap.objs.size
   rw[heap3,hsz3]
   exact ne_of_lt (lt_succ_of_lt (fplt b hb))
  ·rcases (f2 b hb).2.2.2.1 with z|z
   ·exact I3.ok.EV b o e z
   ·exact absurd (lt_of_lt_of_le (Heap.lt_size (I3.ok.bs b o e).1) z) (lt_irrefl _)
 have I4:Inv (aG X N' scope cl fp s3 H3) [] (bu cap σ) H3 {s2 with heap:=dL,toks:=s2.toks+([]:List (Str×Value)).length}:=by
  refine⟨okc,by show s2.os=s3.os;rw[hs3],I3.bare,Un.kept (by show ∀b o,s3.heap.get? b=some o->_;rw[heap3];exact kept3),⟨_,(by show dL.Ns s3.heap.objs.size _;rw[heap3];exact ii),fun i x v e1 e2 e3=>?_⟩,fun x a h=>?_,(by show H3 s3.heap.objs.size=none;rw[heap3];exact hloc),fun x a h=>I3.mv x a (hcl x a h),fun p hp=>?_,I3.hok.kept kept3,?_⟩
  ·obtain⟨j,h1,h2⟩:=oT e2
   obtain⟨hN,hv,hnl,hk⟩:=hcap i j x h1 e1
   obtain⟨m,_,hl⟩:=I3.loc
   obtain⟨u,r,lk⟩:=hl j x v hN h2 hv
   refine⟨u,r,.inr ⟨hk,?_⟩⟩
   obtain⟨a,ha⟩:=hhas x hk
   rcases lk with ⟨z,_⟩|⟨_,a',z1,z2⟩
   ·exact absurd z hnl
   ·have:a'=a:=by have q:=hcl x a ha;rw[z1] at q;exact Option.some.inj q
    subst this
    obtain⟨o,ho,hd⟩:=z2
    exact⟨a',ha,o,kept3 _ _ ho,hd⟩
  ·obtain⟨v,o,ho,hd⟩:=I3.cell x a (hcl x a h)
   exact⟨v,o,kept3 _ _ ho,hd⟩
  ·have hp':p∈X.pn++pins:=mem_append_left _ (by simpa using (show p∈X.pn++[] from hp))
   obtain⟨z1,z2,z3,z4,z5⟩:=I3'.pin p hp'
   refine⟨kept3 _ _ (by rw[<- heap3];exact z1),z2,(show p.1≠s3.heap.objs.size from ne_of_lt (Heap.lt_size z1)),fun z=>?_,z5⟩
   rcases List.mem_cons.mp (I3'.lz p.1 z) with e|e
   ·exact z3 e
   ·exact z4 e
  ·show (bu cap σ).length=N'.length
   unfold bu
   rw[length_map]
   exact hlen
 have ls:ad s2.heap.objs.size=none:=S1.mu.free hfree2
 obtain⟨Pv,pv0,body,fin⟩:=allp s2.heap.objs.size ls
 have loop:codeAny (model X.prog X.w) X.A (.compLoop (.ListComp elt [⟨tg,iter,ifs,0⟩] scope pos) 0 (.ref it) (.ref s2.heap.objs.size) (aG X N' scope cl fp s3 H3).env)
   (compPost (model X.prog X.w) X.A X.xe use QQ (.ref s2.heap.objs.size) hp3.objs.size) {s2 with heap:=dL,toks:=s2.toks+([]:List (Str×Value)).length}:=by
  refine kj (fun n s'=>∃(i:Nat) (dl:St) (Hc:Hp) (acc:List PyData) (ld:Mu),n=xs.length-i/\i<=xs.length/\Inv (aG X N' scope cl fp s3 H3) [] dl Hc s'/\tn i s'.heap/\(∀b∈fp,Hc b=none) /\
   acc.length<=i/\ld s2.heap.objs.size=some acc/\Pv i acc ld/\St0 X.K Hc (bu cap ρ) ld dl/\Ext X.K ad H2 ld Hc) ?_ xs.length
   ⟨0,bu cap σ,H3,[],aD ad s2.heap.objs.size [],by simp,zero_le _,I4,T.keep 0 _ _ st2 (fun b hb o e=>kept3 b o (old3 b o e)),fun b hb=>?_,le_refl _,aE,pv0,?_,?_⟩
  ·rintro n s' ⟨i,dl,Hc,acc,ld,rfl,hi,Ic,tc,frc,hal,hpa,pvi,Sc,Ec⟩
   have stat:∀{Hd:Hp},(∀b∈fp,Hd b=none)->∀b∈fp,qT (aG X N' scope cl fp s3 H3) [] Hd b:=fun hn b hb=>
    ⟨hn b hb,(okc.exf b hb).1,fpst b hb,.inl hb,fun x a h=>(okc.exf b hb).2 x a h,fun p hp=>(f2 b hb).2.2.2.2.2 p (mem_append_left _ (by simpa using (show p∈X.pn++[] from hp)))⟩
   obtain⟨go,stop⟩:=itok _ Hc Ec Sc.mu i
   by_cases hlt:i<xs.length
   ·obtain⟨g1,y1⟩:=go hlt
    refine thn (T.item (aG X N' scope cl fp s3 H3) rfl rfl rfl (fun z=>z) i [] s' dl Hc (fun _ _=>False) Ic (stat frc) tc g1) fun r s4 hq0=>?_
    obtain⟨u,hr,h4⟩:=hq0
    subst hr
    refine thn h4 fun _ s5 hq0=>?_
    obtain⟨x,H5,I5,r5,y5,st5,fr5⟩:=hq0
    obtain⟨d,hd,sm,rd⟩:=y1 x H5 y5
    have I5':=I5.pinned (stat fr5) (T.obj _ _ st5)
    have e5:Ext X.K _ Hc _ H5:=.of_same (Z:=ld) sm
    have S5:St0 X.K H5 (bu cap ρ) ld dl:=⟨Sc.mu.FH e5 sm,Sc.rho.ext Sc.mu e5⟩
    obtain⟨gt,pg,lg⟩:=hg fp s3 H3
    refine thn (pg _ s5 dl H5 x u (fun bn H'=>∃be U,Ext X.K ld H5 U H'/\St0 X.K H' be U bn/\Le (bu cap ρ) be/\c be U fun b bi=>
      if b=true then te be bi fun d' db=>db s2.heap.objs.size=some acc/\(match d' with|.v y=>Pv (i+1) (acc++[y]) (aD db s2.heap.objs.size (acc++[y]))|_=>False) else bi s2.heap.objs.size=some acc/\Pv (i+1) acc bi) I5' r5
     (lg dl H5 (bu cap ρ) _ (.v d) x _ _ S5 rd (body i d acc ld hd hpa pvi) fun bn be U H' e' S' q=>⟨be,U,e',S',q⟩)) fun _ s6 ⟨im,H6,I6,kw,sK,e6,S6,le6,q6⟩=>?_
    refine thn (hif fp s3 H3 _ s6 im H6 kw sK _ (fun b H'=>∃U,Ext X.K sK H6 U H'/\St0 X.K H' kw U im/\if b=true then te kw U fun d' db=>db s2.heap.objs.size=some acc/\(match d' with|.v y=>Pv (i+1) (acc++[y]) (aD db s2.heap.objs.size (acc++[y]))|_=>False) else U s2.heap.objs.size=some acc/\Pv (i+1) acc U)
     I6 S6 q6 fun b U H' e' S' q=>⟨U,e',S',q⟩) fun b s7 ⟨H7,I7,po,e7,S7,q7⟩=>?_
    have again:∀{H9:Hp} {s9:Shared} {acc':List PyData} {tx:Mu},Inv (aG X N' scope cl fp s3 H3) ([]++qB fp s5.heap) im H9 s9->acc'.length<=i+1->tx s2.heap.objs.size=some acc'->Pv (i+1) acc' tx->bJ X.K tx H9->iQ X.K tx H9 (bu cap ρ) im ->
      Ext X.K ad H2 tx H9->∃m,m<xs.length-i/\∃(i:Nat) (dl:St) (Hc:Hp) (acc:List PyData) (ld:Mu),m=xs.length-i/\i<=xs.length/\Inv (aG X N' scope cl fp s3 H3) [] dl Hc s9/\tn i s9.heap/\(∀b∈fp,Hc b=none) /\
       acc.length<=i/\ld s2.heap.objs.size=some acc/\Pv i acc ld/\St0 X.K Hc (bu cap ρ) ld dl/\Ext X.K ad H2 ld Hc:=fun {H9 s9 acc' tx} I9 l9 p9 v9 m9 r9 e9=>by
     refine⟨xs.length-(i+1),∅,i+1,im,H9,acc',tx,rfl,hlt,I9.eV,T.keep _ _ _ st5 fun b hb o e=>(I9.pin (b,o) (mem_append_right _ (mem_append_right _ (bK hb e)))).1,fun b hb=>?_,l9,p9,v9,⟨m9,r9⟩,e9⟩
     obtain⟨o,e,_⟩:=T.obj _ _ st5 b hb
     exact (I9.pin (b,o) (mem_append_right _ (mem_append_right _ (bK hb e)))).2.1
    cases b with
    |false=>
     have q8:po s2.heap.objs.size=some acc/\Pv (i+1) acc po:=by simpa using q7
     refine zL ?_
     exact again I7 ∅ q8.1 q8.2 S7.mu (S7.rho.le le6) (Ec.trans (e5.trans (e6.trans e7)))
    |true=>
     refine zo ?_
     obtain⟨t8,p8,l8⟩:=he fp s3 H3
     refine thn (p8 _ s7 im H7 (fun v H'=>∃y pi,Ext X.K po H7 pi H'/\St0 X.K H' kw pi im/\Rp X.K pi H' y v/\pi s2.heap.objs.size=some acc/\Pv (i+1) (acc++[y]) (aD pi s2.heap.objs.size (acc++[y]))) I7
      (l8 im H7 kw po _ _ S7 (by simpa using q7) fun d' v pi H8 e8 S8 r8 q8=>?_)) fun v s8 ⟨v8,H8,I8,r8,y,pi,e8,S8,ry,pa8,fy⟩=>?_
     ·obtain⟨q80,q8⟩:=q8
      cases d' with
      |v y=>exact⟨y,pi,e8,S8,r8,q80,q8⟩
      |m _=>exact q8.elim
      |s _=>exact q8.elim
      |o _=>exact q8.elim
      |b _=>exact q8.elim
      |q _=>exact q8.elim
     ·obtain⟨us,hacc,rus⟩:=S8.mu s2.heap.objs.size _ pa8
      have hle:acc.length<=1000:=by omega
      refine thn (pX (X:=aG X N' scope cl fp s3 H3) _ s8 im H8 (.ref s2.heap.objs.size) [v8] (.ref s2.heap.objs.size) [v] (fun _ H'=>H'=upd H8 s2.heap.objs.size (.lst (us++[v8]))) I8 rfl (.cons r8 .nil) ⟨_,us,v8,rfl,rfl,hacc,by rw[<- rus.length];exact fK hle,rfl⟩) fun _ s9 hq0=>?_
      obtain⟨_,H9,I9,_,e9⟩:=hq0
      subst e9
      have ex:Ext X.K pi H8 (aD pi s2.heap.objs.size (acc++[y])) (upd H8 s2.heap.objs.size (.lst (us++[v8]))):=iF pa8
      exact again I9 (by rw[length_append,List.length_singleton];omega) aE fy (S8.mu.set pa8 (rus.append (.cons ry .nil))) ((S8.rho.le le6).ext S8.mu ex) (Ec.trans (e5.trans (e6.trans (e7.trans (e8.trans ex)))))
   ·have ei:i=xs.length:=by omega
    subst ei
    refine thn (T.done (aG X N' scope cl fp s3 H3) rfl rfl rfl (fun z=>z) _ [] s' dl Hc (fun _ _=>False) Ic (stat frc) tc (stop rfl)) fun r s4 hq0=>?_
    obtain⟨hr,I5⟩:=hq0
    subst hr
    obtain⟨m,hn,_⟩:=I5.loc
    have hcC:Hc hp3.objs.size=none:=by have z:Hc s3.heap.objs.size=none:=I5.free;rw[heap3] at z;exact z
    obtain⟨us,hacc,rus⟩:=Sc.mu s2.heap.objs.size _ hpa
    have shr:∀a,ld a=none->lI ld s2.heap.objs.size a=none:=fun a e=>by
     by_cases z:a=s2.heap.objs.size
     ·rw[z];exact jE
     ·rw[iP z];exact e
    have dne:∀a ds,lI ld s2.heap.objs.size a=some ds->ld a=some ds:=fun a ds e=>by
     by_cases z:a=s2.heap.objs.size
     ·rw[z,jE] at e;cases e
     ·rw[iP z] at e;exact e
    have eF:Ext X.K ad H2 (lI ld s2.heap.objs.size) Hc:=by
     refine⟨Ec.keep,Ec.tb,fun b ds q=>?_,fun b q z=>shr b (Ec.fresh b q z),Ec.st,fun b c q=>Ec.bx b c q⟩
     obtain⟨es,q2⟩:=Ec.dom b ds q
     have:b≠s2.heap.objs.size:=fun z=>by rw[z,ls] at q;cases q
     exact⟨es,by rw[iP this];exact q2⟩
    have mF:bJ X.K (lI ld s2.heap.objs.size) Hc:=⟨fun a ds q=>by
     obtain⟨ys,z1,z2⟩:=Sc.mu a ds (dne a ds q)
     exact⟨ys,z1,z2.shrink shr⟩,Sc.mu.tab,fun a c q=>let ⟨z,o,w1,w2⟩:=Sc.mu.box a c q;⟨z,o,w1,w2.shrink shr⟩⟩
    refine hend s4 Hc hp3.objs.size s2.heap.objs.size m acc (lI ld s2.heap.objs.size) (by have z:s4.heap.Ns s3.heap.objs.size m:=hn;rw[heap3] at z;exact z) (I2.G3 (by rw[hsz3];exact Nat.le_succ _) hcC) (fun h' hs'=>?_) (e1.trans eF) ⟨mF,S1.rho.ext S1.mu eF⟩ (Rp.list hacc jE (rus.shrink shr)) (fin acc ld pvi hpa)
    have kp:∀b o,b<s2.heap.objs.size->s4.heap.get? b=some o->h'.get? b=some o:=fun b o hb e=>hs'.extBut b o (by rw[hsz3];exact ne_of_lt (lt_succ_of_lt hb)) e
    have hok':HOk X.prog X.w Hc h':=fun b ob e=>by
     refine (I5.hok b ob e).qX (fun cc v hcc q=>hs'.extBut cc v ?_ q) (fun _ q=>q) fun _ _ q=>q
     rintro rfl
     rcases hcc with z|z
     ·rw[<- z,hcC] at e;cases e
     ·rw[hcC] at z;cases z
    have u1:Un (frs X.stack) fp H2 H3 s2.heap s3.heap:=by rw[heap3,hH3];exact Un.laid old3 (le_refl _) hfree2
    have u2:Un (frs X.stack) fp H3 Hc s3.heap s4.heap:=I5.base
    exact I2.AK (ch:=fp) (by show s4.os=s2.os;have z:s4.os=s3.os:=I5.os;rw[z,hs3]) (Un.after (u1.trans u2) kp) hok' I5.bare fun b hb=>⟨(f2 b hb).2.2.2.1,(f2 b hb).2.1,(f2 b hb).2.2.2.2.1,(f2 b hb).2.2.2.2.2⟩
  ·have z:b≠s2.heap.objs.size:=ne_of_lt (fplt b hb)
   rw[hH3,aS z]
   exact (f2 b hb).1
  ·have ex:=iw (o:=.lst []) (ds:=[]) S1.mu hfree2 hK2
   rw[hH3]
   exact⟨S1.mu.mut .nil hfree2 hK2,(S1.rho.ext S1.mu ex).cap⟩
  ·rw[hH3]
   exact iw (o:=.lst []) (ds:=[]) S1.mu hfree2 hK2
 have envE:(aG X N' scope cl fp s3 H3).env=compEnvC scope cl hp3.objs.size X.env:=by show compEnvC scope cl s3.heap.objs.size X.env=_;rw[heap3]
 rw[envE] at loop
 exact codeAny_compStart_list loop (T.self X.A 0 _ _ _ (T.keep 0 _ _ st2 (fun b hb o e=>kept3 b o (old3 b o e))) loop)
theorem yV{X:Cx}{N':List Str}{scope:Scope}{cl:List (Str×Addr)}{elt iter tg:Expr}{ifs:List Expr}{pos:Pos}{cap:List (Option Nat)}{src:DTI}{g:DTG}{c:DTT}{te:DTE}(hc:X.calm=X.calm)
  (hi:DI X tg iter src) (hg:∀fp bv ce,DG (aG X N' scope cl fp bv ce) tg g) (hif:∀fp bv ce,Er (aG X N' scope cl fp bv ce) ifs c) (he:∀fp bv ce,DE (aG X N' scope cl fp bv ce) elt te)
  (hclos:closureFor scope X.env=pure cl) (hcell:∀y∈scope.names,y.2≠.cell) (hkind:scope.kind = .function) (hnames:∀y∈scope.names,y.2 = .local->scope.names.lookup y.1=some .local)
  (hcl:∀x a,cl.lookup x=some a->X.env.cells.lookup x=some a) (hhas:∀x,(relabel scope X.env).names.lookup x=some .cell\/(relabel scope X.env).names.lookup x=some .free->∃a,cl.lookup x=some a)
  (hlen:cap.length=N'.length) (hcap:∀(i j:Nat) (x:Str),cap[i]? = some (some j)->N'[i]? = some x->X.N[j]? = some x/\Vis X.env.scope x/\X.env.kindOf x≠some .local/\((relabel scope X.env).names.lookup x=some .cell\/(relabel scope X.env).names.lookup x=some .free))
  (hs:∀x,foldedSetIterable iter X.env x=pure x:=by intro _;rfl):DE X (.ListComp elt [⟨tg,iter,ifs,0⟩] scope pos) (jW cap src g c te):=by
 refine Kx fun pins s σ H ρ Z Qd Q I S h k=>?_
 rw[eval_ListComp]
 refine Ba hc hi hg hif he hclos hcell hkind hnames hcl hhas hlen hcap hs I S h fun s4 Hc C pa m acc re hn _ hI e1 S1 r q=>?_
 exact⟨m,hn,fun h' hs'=>⟨.ref pa,Hc,hI h' hs',rfl,k (.v (.list acc)) _ re Hc e1 S1 r q⟩⟩
theorem ns_obj{h:Heap}{C:Addr}{m:Str->Option Value}(hn:h.Ns C m):∃o,h.get? C=some o/\∀v,o.data≠.cell v:=let ⟨o,es,ep,ho,hd,_⟩:=hn;⟨o,ho,fun v z=>by rw[hd] at z;cases z⟩
theorem Iz{h h':Heap}{C:Addr}{m:Str->Option Value}(hn:h.Ns C m)(e:h'.get? C=h.get? C):h'.Ns C m:=let ⟨o,es,ep,ho,r⟩:=hn;⟨o,es,ep,e.trans ho,r⟩
theorem Cg{X:Cx}{i:Nat}{x:Str}{pos' spos:Pos}{N':List Str}{scope:Scope}{cl:List (Str×Addr)}{elt iter tg:Expr}{ifs:List Expr}{pos:Pos}{cap:List (Option Nat)}{src:DTI}{g:DTG}{c:DTT}{te:DTE}(hN:X.N.Nodup)(hix:X.N[i]? = some x)(hx:X.env.scope.names.lookup x=some .local)(hc:X.calm=X.calm)
  (hi:DI X tg iter src) (hg:∀fp bv ce,DG (aG X N' scope cl fp bv ce) tg g) (hif:∀fp bv ce,Er (aG X N' scope cl fp bv ce) ifs c) (he:∀fp bv ce,DE (aG X N' scope cl fp bv ce) elt te)
  (hclos:closureFor scope X.env=pure cl) (hcell:∀y∈scope.names,y.2≠.cell) (hkind:scope.kind = .function) (hnames:∀y∈scope.names,y.2 = .local->scope.names.lookup y.1=some .local)
  (hcl:∀x a,cl.lookup x=some a->X.env.cells.lookup x=some a) (hhas:∀x,(relabel scope X.env).names.lookup x=some .cell\/(relabel scope X.env).names.lookup x=some .free->∃a,cl.lookup x=some a)
  (hlen:cap.length=N'.length) (hcap:∀(i j:Nat) (x:Str),cap[i]? = some (some j)->N'[i]? = some x->X.N[j]? = some x/\Vis X.env.scope x/\X.env.kindOf x≠some .local/\((relabel scope X.env).names.lookup x=some .cell\/(relabel scope X.env).names.lookup x=some .free))
  (hs:∀x,foldedSetIterable iter X.env x=pure x:=by intro _;rfl)
  (hsw:swapsWith (.ListComp elt [⟨tg,iter,ifs,0⟩] scope pos) (some (.Name x pos')) spos.line X.env=pure true:=by rfl):DS X (.Assign [.Name x pos'] (.ListComp elt [⟨tg,iter,ifs,0⟩] scope pos) spos) (bc (jW cap src g c te) (ao i)):=by
 refine⟨fun D σ H=>∃ρ Z Dd,St0 X.K H ρ Z σ/\bc (jW cap src g c te) (ao i) Dd ρ Z/\(∀bn be U H',Ext X.K Z H U H'->St0 X.K H' be U bn->Dd.nx be U->D.nx bn H'),?_,fun σ H ρ Z Dd De S h k1 k2 k3 k4=>⟨ρ,Z,Dd,S,h,k1⟩⟩
 rintro pins s σ H D I ⟨ρ,Z,Dd,S,h,k1⟩
 rw[exec_Assign_Name_used _ _ _ _ hsw]
 refine wpAny_bind (wpAny_standAt ?_)
 show wpAny _ _ ((comprehension (.ListComp elt [⟨tg,iter,ifs,0⟩] scope pos) scope X.env (firstIterPos [⟨tg,iter,ifs,0⟩] pos) (newList []) false (eval iter X.env) (some (assign (.Name x pos') X.env))>>=fun _=>pure ())>>=_) _ _ s
 refine wpAny_bind (wpAny_bind (Ba (Qd:=fun d ad=>ao i d ρ ad Dd.nx) hc hi hg hif he hclos hcell hkind hnames hcl hhas hlen hcap hs I S h fun s4 Hc C pa m acc re hn fC hI e1 S1 r q=>?_))
 have I4:Inv X pins σ Hc s4:=hI s4.heap (Heap.SameBut.refl _ _)
 obtain⟨oC,hoC,hdC⟩:∃o,s4.heap.get? C=some o/\∀v,o.data≠.cell v:=by
  obtain⟨o,h1,h2⟩:=ns_obj hn
  exact⟨o,h1,h2⟩
 have I5:=I4.pinned (fp:=[C]) (fun b hb=>by rw[List.mem_singleton.mp hb];exact fC) (fun b hb=>by rw[List.mem_singleton.mp hb];exact⟨oC,hoC,hdC⟩)
 show wpAny _ _ (assign (.Name x pos') X.env (.ref pa)) _ _ s4
 refine wpAny_assign_Name (mn I5 hN hix (Or.inl hx) (show RelV (.ref pa) (.ref pa) from rfl) (fun s' I'=>?_) (.inr hx))
 have keepC:s'.heap.get? C=some oC:=(I'.pin (C,oC) (mem_append_right _ (mem_append_right _ (bK (List.mem_singleton.mpr rfl) hoC)))).1
 have hn':s'.heap.Ns C m:=Iz hn (by rw[keepC,hoC])
 refine⟨m,hn',fun h' hs'=>wpAny_pure (wpAny_pure ?_)⟩
 refine⟨σ.set i (some (.ref pa)),Hc,?_,k1 _ _ _ _ e1 ⟨S1.mu,S1.rho.set (d:=.v (.list acc)) r⟩ q⟩
 refine I'.eV.AK (ch:=[C]) rfl ⟨fun b o e n hb hx=>?_,fun b o e n hb hx=>?_,fun b o e n hx=>n,fun b o e hx=>?_,fun b xs e=>e,fun b o u e=>e,fun b ps e=>⟨#[],by rw[Array.append_empty];exact e⟩⟩ ?_ I'.bare fun b hb=>?_
 ·exact hs'.extBut b o (fun z=>hx (List.mem_singleton.mpr z)) e
 ·exact⟨o.slots,hs'.extBut b o (fun z=>hx (List.mem_singleton.mpr z)) e⟩
 ·exact⟨o,hs'.extBut b o (fun z=>hx (List.mem_singleton.mpr z)) e⟩
 ·exact fun b ob e=>by
   refine (I'.hok b ob e).qX (fun cc v hcc q=>hs'.extBut cc v ?_ q) (fun _ q=>q) fun _ _ q=>q
   rintro rfl
   rcases hcc with z|z
   ·rw[<- z,fC.1] at e;cases e
   ·rw[fC.1] at z;cases z
 ·rw[List.mem_singleton.mp hb]
  exact⟨fC.2.2.2.1,fC.2.1,fC.2.2.2.2.1,fC.2.2.2.2.2⟩
theorem mR{cap:List (Option Nat)}{src:DTI}{g:DTG}{t:DTT}{ta:DTE}{ρ:Rho}{Z:Mu}{Q:DK}:jW cap src g t ta ρ Z Q=src ρ Z fun xs ad=>xs.length<=1000/\∀p,ad p=none->∃Pv:Nat->List PyData->Mu->Prop,Pv 0 [] (aD ad p []) /\
 (∀i x acc U,xs[i]? = some x->U p=some acc->Pv i acc U->g (.v x) (bu cap ρ) U fun ci am=>Le (bu cap ρ) ci/\t ci am fun b bi=>
  if b=true then ta ci bi fun d db=>db p=some acc/\(match d with|.v y=>Pv (i+1) (acc++[y]) (aD db p (acc++[y]))|_=>False) else bi p=some acc/\Pv (i+1) acc bi) /\
 (∀acc U,Pv xs.length acc U->U p=some acc->Q (.v (.list acc)) (lI U p)):=propext Iff.rfl
theorem qd{Z:Mu}{p:Addr}{ds:List PyData}(h:Z p=none):lI (aD Z p ds) p=Z:=Mu.eq (fun b=>by
 by_cases e:b=p
 ·rw[e,jE,h]
 ·rw[iP e,aV e]) fun _=>rfl
theorem O9{xs:List PyData}{f:PyData->Option PyData}{i:Nat}{d:PyData}(h:xs[i]? = some d):(xs.take (i+1)).filterMap f=(xs.take i).filterMap f++(f d).toList:=BO h
noncomputable def Itz(K:PySem.W.Frag)(l1 l2:Addr):It:=
 ⟨fun i H=>∃xs ys x y,SqL K H l1 xs/\SqL K H l2 ys/\xs[i]? = some x/\ys[i]? = some y,
  fun i H v H'=>∃p x y,v = .ref p/\H p=none/\H'=upd H p (.tup [x,y])/\(∀xs,SqL K H l1 xs->xs[i]? = some x)/\(∀ys,SqL K H l2 ys->ys[i]? = some y),
  fun i H=>∃xs ys,SqL K H l1 xs/\SqL K H l2 ys/\(xs.length<=i\/ys.length<=i)⟩
theorem Inv.xZ{X:Cx}{pins:List (Addr×Obj)}{σ:St}{H:Hp}{s:Shared}{h':Heap}{t':Nat}{ch:List Addr}{a:Addr}{o:HO}(I:Inv X pins σ H s)(hc:∀b∈ch,qT X pins H b)
  (k:∀b u,b ∉ ch->s.heap.get? b=some u->h'.get? b=some u) (hp:s.heap.objs.size<=a) (new:jU X.prog X.w (upd H a o) h' a o):Inv X pins σ (upd H a o) {s with heap:=h',toks:=t'}:=by
 have hn:=I.hok.fresh hp
 have nin:∀b u,H b=some u->b ∉ ch:=fun b u e z=>by rw[(hc b z).1] at e;cases e
 refine I.call (g':=s.gens) (d':=s.drawn) (t':=t') (ch:=ch) ?_ ?_ I.bare fun b hb=>?_
 ·exact⟨fun b u q _ _ x=>k b u x q,fun b u q _ _ x=>⟨u.slots,k b u x q⟩,fun b u q n _=>by rw[aS (ne_of_lt (lt_of_lt_of_le (Heap.lt_size q) hp))];exact n,fun b u q x=>⟨u,k b u x q⟩,
   fun b xs q=>by rw[aS (aY q hn)];exact q,fun b u xs q=>by rw[aS (aY q hn)];exact q,fun b ps q=>⟨#[],by rw[aS (aY q hn),q];simp⟩⟩
 ·intro b u e
  by_cases hb:b=a
  ·subst hb;rw[eU] at e;cases e;exact new
  ·rw[aS hb] at e
   refine (I.hok b u e).qX (fun c v hcv q=>k c v ?_ q) (fun c q=>by rw[aS (aY q hn)];exact q) fun c xs q=>by rw[aS (aY q hn)];exact q
   rcases hcv with z|z
   ·rw[z];exact nin b u e
   ·exact nin c _ z
 ·obtain⟨_,f1,f2,f3,f4,f5⟩:=hc b hb
  exact⟨f3,f1,f4,f5⟩
theorem Inv.Hn{X:Cx}{pins:List (Addr×Obj)}{σ:St}{H:Hp}{s:Shared}{h':Heap}{t':Nat}{ch:List Addr}(I:Inv X pins σ H s)(hc:∀b∈ch,qT X pins H b)
  (k:∀b u,b ∉ ch->s.heap.get? b=some u->h'.get? b=some u):Inv X pins σ H {s with heap:=h',toks:=t'}:=by
 have nin:∀b u,H b=some u->b ∉ ch:=fun b u e z=>by rw[(hc b z).1] at e;cases e
 refine I.call (g':=s.gens) (d':=s.drawn) (t':=t') (ch:=ch) ?_ ?_ I.bare fun b hb=>?_
 ·exact⟨fun b u q _ _ x=>k b u x q,fun b u q _ _ x=>⟨u.slots,k b u x q⟩,fun b u q n _=>n,fun b u q x=>⟨u,k b u x q⟩,fun b xs q=>q,fun b u xs q=>q,fun b ps q=>⟨#[],by rw[q];simp⟩⟩
 ·intro b u e
  refine (I.hok b u e).qX (fun c v hcv q=>k c v ?_ q) (fun c q=>q) fun c xs q=>q
  rcases hcv with z|z
  ·rw[z];exact nin b u e
  ·exact nin c _ z
 ·obtain⟨_,f1,f2,f3,f4,f5⟩:=hc b hb
  exact⟨f3,f1,f4,f5⟩
noncomputable def Q9(z TI TO i1 i2 l1 l2:Addr)(i:Nat)(h:Heap):Prop:=IsZip h z TI TO .none/\IsPair h TI (.ref i1) (.ref i2)/\(∃a b,IsPair h TO a b)/\h.IsListIter i1 l1 i/\h.IsListIter i2 l2 i
theorem Mc{P:Program}{w:World}{K:PySem.W.Frag}{es:List Expr}{x1:Nat}{pos:Pos}(z TI TO i1 i2 l1 l2:Addr)(D:ZipApart z TI TO i1 i2 l1 l2)(hz1:TI≠l1)(hz2:TI≠l2) :
  Turn true P w K (.Tuple es x1 pos) (Itz K l1 l2) [z,TI,TO,i1,i2] z (Q9 z TI TO i1 i2 l1 l2) where
 mem:=by simp
 obj:=fun i h st b hb=>by
  obtain⟨a1,a2,⟨u,v,a3⟩,⟨o4,a4,c4,d4⟩,⟨o5,a5,c5,d5⟩⟩:=st
  simp only[mem_cons,not_mem_nil,or_false] at hb
  rcases hb with rfl|rfl|rfl|rfl|rfl
  ·exact⟨_,a1,fun v z=>by cases z⟩
  ·exact⟨_,a2,fun v z=>by cases z⟩
  ·exact⟨_,a3,fun v z=>by cases z⟩
  ·exact⟨_,a4,fun v z=>by rw[d4] at z;cases z⟩
  ·exact⟨_,a5,fun v z=>by rw[d5] at z;cases z⟩
 keep:=fun i h h' st k=>by
  obtain⟨a1,a2,⟨u,v,a3⟩,a4,a5⟩:=st
  exact⟨k z (by simp) _ a1,k TI (by simp) _ a2,⟨u,v,k TO (by simp) _ a3⟩,a4.at fun o e=>k i1 (by simp) o e,a5.at fun o e=>k i2 (by simp) o e⟩
 item:=by
  intro X hP hw hK hc i pins s σ H E I hf st hg
  subst hP hw hK
  obtain⟨xs,ys,x,y,hq1,hq2,hx,hy⟩:=hg
  obtain⟨its1,rv1,p1,_⟩:=I.list hq1
  obtain⟨its2,rv2,p2,_⟩:=I.list hq2
  obtain⟨u,hu,ru⟩:=rv1.get hx
  obtain⟨v,hv,rv⟩:=rv2.get hy
  obtain⟨a1,a2,⟨c,d,a3⟩,a4,a5⟩:=id st
  refine wpAny_pyNext_zip_item D a1 a2 a3 a4 a5 p1.isList p2.isList (x:=u) (y:=v) (by simpa using hu) (by simpa using hv) fun h' b1 b2 b3 b4 b5 b6 b7=>?_
  refine⟨.ref s.heap.objs.size,rfl,wpAny_letOwnedTupleGo_zip (s:={s with heap:=h'}) b1 fun h2 c1 sb=>?_⟩
  have hT:h2.get? s.heap.objs.size=some {cls:=.type "tuple",data:=.seq #[u,v]}:=sb.extBut _ _ (Nat.ne_of_gt (Heap.lt_size a1)) b5
  refine⟨.ref s.heap.objs.size,upd H s.heap.objs.size (.tup [x,y]),?_,rfl,⟨s.heap.objs.size,x,y,rfl,I.hok.fresh (le_refl _),rfl,fun zs hz=>by rw[I.uf hz hq1];exact hx,fun zs hz=>by rw[I.uf hz hq2];exact hy⟩,?_,fun b hb=>?_⟩
  ·refine Inv.xZ (s:=s) (h':=h2) (t':=s.toks) (ch:=[z,TI,TO,i1,i2]) I hf (fun b o hb e=>?_) (le_refl _) ⟨by show 2<=sizeLine;decide,[u,v],.cons ru (.cons rv .nil),_,hT,rfl,0,rfl⟩
   simp only[mem_cons,not_mem_nil,or_false,not_or] at hb
   exact sb.extBut _ _ hb.1 (b7 b o hb.1 hb.2.2.1 hb.2.2.2.1 hb.2.2.2.2 e)
  ·have k2:∀b o,b≠z->h'.get? b=some o->h2.get? b=some o:=fun b o hb e=>sb.extBut _ _ hb e
   exact⟨c1,k2 _ _ D.TIz (b7 _ _ D.TIz D.TITO D.TIi1 D.TIi2 a2),⟨_,_,k2 _ _ D.TOz b2⟩,b3.at fun o e=>k2 _ o D.i1z e,b4.at fun o e=>k2 _ o D.i2z e⟩
  ·have hb':b<s.heap.objs.size:=by
    simp only[mem_cons,not_mem_nil,or_false] at hb
    obtain⟨o4,e4,_⟩:=a4
    obtain⟨o5,e5,_⟩:=a5
    rcases hb with rfl|rfl|rfl|rfl|rfl
    ·exact Heap.lt_size a1
    ·exact Heap.lt_size a2
    ·exact Heap.lt_size a3
    ·exact Heap.lt_size e4
    ·exact Heap.lt_size e5
   rw[aS (ne_of_lt hb')]
   exact (hf b hb).1
 done:=by
  intro X hP hw hK hc i pins s σ H E I hf st hg
  subst hP hw hK
  obtain⟨xs,ys,hq1,hq2,hx⟩:=hg
  obtain⟨its1,rv1,p1,_⟩:=I.list hq1
  obtain⟨its2,rv2,p2,_⟩:=I.list hq2
  obtain⟨a1,a2,⟨c,d,a3⟩,a4,a5⟩:=id st
  have hl1:=rv1.length
  have hl2:=rv2.length
  refine wpAny_pyNext_zip_end (I.ok.hd (hc rfl)) D a1 a2 a3 a4 a5 p1.isList p2.isList ?_ fun h' b7=>⟨rfl,?_⟩
  ·rcases hx with z|z
   ·exact .inl (by simp;omega)
   ·exact .inr (by simp;omega)
  ·refine Inv.Hn (t':=s.toks) (ch:=[z,TI,TO,i1,i2]) I hf fun b o hb e=>?_
   simp only[mem_cons,not_mem_nil,or_false,not_or] at hb
   exact b7 b o hb.1 hb.2.2.1 hb.2.2.2.1 hb.2.2.2.2 e
 self:=fun _ _ _ _ _ st h=>wpAny_pyIter_zip st.1 h
section
variable {X:Cx}{es:List Expr}{x1:Nat}{tpos:Pos}
noncomputable def Sd(K:PySem.W.Frag)(ta:TA):TI:=fun σ H R=>ta σ H fun vs H1=>∃l1 l2,vs=[.ref l1,.ref l2]/\(∃xs,SqL K H1 l1 xs)/\(∃ys,SqL K H1 l2 ys)/\R (Itz K l1 l2) H1
theorem Pl{a b:Expr}{ta:TA}{p pos:Pos}(hc:X.calm=true)(hg:Gl X "zip")(hm:X.mg "zip"=none)(ha:PA X [a,b] ta)(hs:starEach [a,b] X.env=[(false,eval a X.env),(false,eval b X.env)]:=by rfl)(hs2:starEach [b] X.env=[(false,eval b X.env)]:=by rfl) :
  PI X (.Tuple es x1 tpos) (.Call (.Name "zip" p) [a,b] [] pos) (Sd X.K ta):=by
 intro pins s σ H R I h
 refine Call_ (pA I hg hm PyProof.Rows.Boot.«zip» (PyProof.Rows.callWith_type1 (thn (ha pos pins s σ H _ I h) fun us s1 hq0=>?_) (by rw[hs,hs2]) (by rw[hs2];rfl)))
 obtain⟨vs,H1,I1,r1,q1⟩:=hq0
 obtain⟨l1,l2,e,⟨xs,hq1⟩,⟨ys,hq2⟩,q⟩:=q1
 subst e
 cases r1 with
 |cons r rr=>
  cases rr with
  |cons r' rr=>
   cases rr
   cases r
   cases r'
   obtain⟨its1,rv1,p1,_⟩:=I1.list hq1
   obtain⟨its2,rv2,p2,_⟩:=I1.list hq2
   have n1:l1<s1.heap.objs.size:=by obtain⟨_,e,_⟩:=p1.isList;exact Heap.lt_size e
   have n2:l2<s1.heap.objs.size:=by obtain⟨_,e,_⟩:=p2.isList;exact Heap.lt_size e
   refine call_zip_2 p1.isList p2.isList fun h' hz hTI hTO hi1 hi2 hsz hk=>?_
   refine wpAny_pyIter_zip (s:={s1 with heap:=h'}) hz ?_
   refine⟨s1.heap.objs.size+4,[s1.heap.objs.size+4,s1.heap.objs.size+2,s1.heap.objs.size+3,s1.heap.objs.size,s1.heap.objs.size+1],_,_,H1,rfl,I1.kept (t':=s1.toks) hk,(Mc _ _ _ _ _ l1 l2 (zipApart_new n1 n2) (Nat.ne_of_gt (lt_of_lt_of_le n1 (le_add_right _ 2))) (Nat.ne_of_gt (lt_of_lt_of_le n2 (le_add_right _ 2)))).calm hc,⟨hz,hTI,⟨_,_,hTO⟩,hi1,hi2⟩,fun b hb=>?_,q⟩
   have hb':s1.heap.objs.size<=b:=by
    simp only[mem_cons,not_mem_nil,or_false] at hb
    rcases hb with rfl|rfl|rfl|rfl|rfl
    ·exact le_add_right _ 4
    ·exact le_add_right _ 2
    ·exact le_add_right _ 3
    ·exact le_refl _
    ·exact le_add_right _ 1
   exact I1.G3 hb' (I1.hok.fresh hb')
noncomputable def rQ:List PyData->List PyData->List PyData
 |x::xs,y::ys=>.tuple [x,y]::rQ xs ys
 |_,_=>[]
theorem El:∀{xs ys:List PyData} {i:Nat} {x y:PyData},xs[i]? = some x->ys[i]? = some y->(rQ xs ys)[i]? = some (.tuple [x,y])
 |_::_,_::_,0,x,y,h,g=>by simp at h g;subst h g;rfl
 |_::xs,_::ys,i+1,x,y,h,g=>El (xs:=xs) (ys:=ys) (i:=i) (by simpa using h) (by simpa using g)
 |[],_,i,x,y,h,_=>by simp at h
 |_::_,[],i,x,y,_,h=>by simp at h
theorem yh:∀(xs ys:List PyData),(rQ xs ys).length=min xs.length ys.length
 |[],_=>by simp[rQ]
 |_::_,[]=>by simp[rQ]
 |_::xs,_::ys=>by simp[rQ,yh xs ys]
noncomputable def Kk(t:DTA):DTI:=fun ρ Z Q=>t ρ Z fun ds ad=>match ds with
 |[.v (.list xs),.v (.list ys)]=>Q (rQ xs ys) ad
 |_=>False
theorem PZ{a b:Expr}{t:DTA}{p pos:Pos}(hg:Gl X "zip")(hm:X.mg "zip"=none)(ha:DA X [a,b] t)(hs:starEach [a,b] X.env=[(false,eval a X.env),(false,eval b X.env)]:=by rfl)(hs2:starEach [b] X.env=[(false,eval b X.env)]:=by rfl)(hc:X.calm=true:=by rfl) :
  DI X (.Tuple es x1 tpos) (.Call (.Name "zip" p) [a,b] [] pos) (Kk t):=by
 obtain⟨t1,p1,l1⟩:=ha
 refine⟨_,Pl hc hg hm p1 hs hs2,fun σ H ρ Z Qd R S h k=>?_⟩
 refine l1 σ H ρ Z _ _ S h fun ds us ad H1 e1 S1 rs len h1=>?_
 split at h1
 ·rename_i xs ys
  cases rs with
  |cons r1 r2=>
   cases r2 with
   |cons r2 r3=>
    cases r3
    cases r1 with
    |@list a us _ ha hn ra=>
     cases r2 with
     |@list b ws _ hb hm' rb=>
      refine⟨a,b,rfl,⟨us,SqL.of ha⟩,⟨ws,SqL.of hb⟩,k (rQ xs ys) ad H1 _ e1 S1 (fun am H2 e2 ok2 i=>⟨fun hi=>?_,fun hi=>?_⟩) h1⟩
      ·rw[yh] at hi
       have ha2:=e2.keep _ _ ha hn trivial
       have hb2:=e2.keep _ _ hb hm' trivial
       have i1:i<us.length:=by rw[<- ra.length];omega
       have i2:i<ws.length:=by rw[<- rb.length];omega
       refine⟨⟨us,ws,us[i],ws[i],SqL.of ha2,SqL.of hb2,by simp[i1],by simp[i2]⟩,?_⟩
       rintro v H' ⟨p,x,y,rfl,hp,rfl,hx,hy⟩
       obtain⟨u',h1',h2'⟩:=ra.get (i:=i) (d:=xs[i]'∅) (by simp)
       obtain⟨w',g1',g2'⟩:=rb.get (i:=i) (d:=ys[i]'∅) (by simp)
       have z1:=hx us (SqL.of ha2)
       have z2:=hy ws (SqL.of hb2)
       rw[h1'] at z1
       rw[g1'] at z2
       cases z1
       cases z2
       refine⟨.tuple [xs[i]'∅,ys[i]'∅],El (by simp) (by simp),xA hp,?_⟩
       exact jZ ok2 (.cons (h2'.ext S1.mu e2) (.cons (g2'.ext S1.mu e2) .nil)) hp
      ·rw[yh] at hi
       have l1:=ra.length
       have l2:=rb.length
       exact⟨us,ws,SqL.of (e2.keep _ _ ha hn trivial),SqL.of (e2.keep _ _ hb hm' trivial),∅⟩
 ·exact h1.elim
theorem BU{t:DTA}{ρ:Rho}{Z:Mu}{Q:List PyData->Mu->Prop}:Kk t ρ Z Q=t ρ Z fun ds ad=>match ds with|[.v (.list xs),.v (.list ys)]=>Q (rQ xs ys) ad|_=>False:=propext Iff.rfl
end
section
variable {X:Cx}{a b e:Expr}{es:List Expr}{ta tb te:DTE}{t:DTA}{p pos:Pos}
noncomputable def iB:List D->Mu->DK->Prop:=fun xs Z Q=>match xs with
 |[.v (.list ys)]=>Q (.v (.tuple ys)) Z
 |[.v (.tuple ys)]=>Q (.v (.tuple ys)) Z
 |[.m l]=>(match Z l with|some ys=>Q (.v (.tuple ys)) Z|none=>False)
 |_=>False
theorem J5{K:PySem.W.Frag}:pf K (fun xs H Q=>∃p ys,xs=[.ref p]/\((SqL K H p ys/\∀l,H l=none->Q (.ref l) (upd H l (.tup ys)))\/(SqT K H p ys/\Q (.ref p) H))) iB:=by
 intro xs us H Z Qd Q ok rs h k
 unfold iB at h
 split at h
 ·cases rs with
  |cons r1 r2=>
   cases r2
   cases r1 with
   |list hs hn r=>exact⟨_,_,rfl,.inl ⟨SqL.of hs,fun l hl=>k (.v _) _ Z _ (jk hl) (ok.new hl) (jZ ok r hl) h⟩⟩
 ·cases rs with
  |cons r1 r2=>
   cases r2
   cases id r1 with
   |tuple hs r=>exact⟨_,_,rfl,.inr ⟨hs,k (.v _) _ Z H .refl ok r1 h⟩⟩
 ·cases rs with
  |cons r1 r2=>
   cases r2
   obtain⟨rfl,ds,hm⟩:=r1
   rw[hm] at h
   obtain⟨us,hl,r⟩:=ok _ ds hm
   exact⟨_,_,rfl,.inl ⟨SqL.of hl,fun l hl'=>k (.v _) _ Z _ (jk hl') (ok.new hl') (jZ ok r hl') h⟩⟩
 ·exact h.elim
theorem o7(hg:Gl X "tuple")(hm:X.mg "tuple"=none)(ha:DA X (e::es) t)
  (he:starEach (e::es) X.env=(false,eval e X.env)::starEach es X.env:=by rfl) (hpl:(backTo pos (starEach es X.env)).any (·.1)=false:=by rfl):DE X (.Call (.Name "tuple" p) (e::es) [] pos) (dCB iB t):=
 uC zz J5 hg hm PyProof.Rows.Boot.«tuple» ha ⋯ ⋯ he hpl
theorem yx{ys:List PyData}{Z:Mu}{Q:DK}:iB [.v (.list ys)] Z Q=Q (.v (.tuple ys)) Z:=propext Iff.rfl
theorem yb{l:Addr}{Z:Mu}{Q:DK}:iB [.m l] Z Q=(match Z l with|some ys=>Q (.v (.tuple ys)) Z|none=>False):=propext Iff.rfl
noncomputable def DD:D->D->Mu->DK->Prop:=fun x y Z Q=>match x,y with
 |.v (.list xs),.v (.int k)=>(0<=k/\k<=1000/\xs.length*k.toNat<=1000)/\Q (.v (.list (List.replicate k.toNat xs).flatten)) Z
 |_,_=>False
theorem RpL.rep{K:PySem.W.Frag}{Z:Mu}{H:Hp}{ds:List PyData}{us:List V}(r:RpL K Z H ds us):∀n:Nat,RpL K Z H (List.replicate n ds).flatten (List.replicate n us).flatten
 |0=>.nil
 |n+1=>by rw[replicate_succ,flatten_cons,replicate_succ,flatten_cons];exact r.append (RpL.rep r n)
theorem Qr{K:PySem.W.Frag}:jY K Qz DD:=by
 intro x y ux uy H Z Qd Q ok rx ry h k
 unfold DD at h
 split at h
 ·rename_i xs n
  cases ry
  cases rx with
  |@list a us _ ha hn ra=>exact⟨a,n,us,rfl,rfl,ha,∅,∅,Hv (by rw[<- ra.length];exact h.1.2.2),fun p hp=>k (.v _) _ Z _ (jk hp) (ok.new hp) (xN ok (ra.rep _) hp) h.2⟩
 ·exact h.elim
theorem OP(ha:DE X a ta)(hb:DE X b tb):DE X (.BinOp a .Mult b pos) (dOp DD ta tb):=xD PU Qr ha hb
theorem K7{xs:List PyData}{k:Int}{Z:Mu}{Q:DK}:DD (.v (.list xs)) (.v (.int k)) Z Q=((0<=k/\k<=1000/\xs.length*k.toNat<=1000)/\Q (.v (.list (List.replicate k.toNat xs).flatten)) Z):=propext Iff.rfl
end
theorem cl1{k:Str}{v:Addr}{r:List (Str×Addr)}{x:Str}{a:Addr}(h:List.lookup x [(k,v)]=some a):List.lookup x ((k,v)::r)=some a:=by
 simp only[lookup_cons] at h ⊢
 cases e:x==k with
 |true=>rw[e] at h;exact h
 |false=>rw[e] at h;exact absurd h (by simp)
theorem cl2{k k':Str}{v v':Addr}{r:List (Str×Addr)}{x:Str}{a:Addr}(n:(k==k')=false)(h:List.lookup x [(k,v)]=some a):List.lookup x ((k',v')::(k,v)::r)=some a:=by
 have g:=cl1 (r:=r) h
 simp only[lookup_cons] at h
 cases e:x==k with
 |true=>
  have e':x=k:=by simpa using e
  subst e'
  rw[lookup_cons,n]
  exact g
 |false=>rw[e] at h;exact absurd h (by simp)
section
variable {X:Cx}{e:Expr}{es:List Expr}{t:DTA}{p pos:Pos}
noncomputable def LC:List PyData->Option (List Int)
 |[]=>some []
 |.int b::r=>(LC r).map (b::·)
 |_::_=>none
end
section
variable {X:Cx}{e tg:Expr}{te:DTE}{td:DTS}{pos:Pos}
noncomputable def L3(te:DTE)(g:DTG)(tb:DTS):DTS:=fun Dd ρ Z=>te ρ Z fun d ad=>match d with
 |.m l=>∃xs,ad l=some xs/\∃Pv:Nat->Rho->Mu->Prop,Pv 0 ρ ad/\(∀i be U,Pv i be U->U l=some xs) /\
   (∀i x be U,xs[i]? = some x->Pv i be U->g (.v x) be U fun ci am=>tb {Dd with nx:=Pv (i+1),ct:=Pv (i+1),bk:=Dd.nx} ci am)/\(∀be U,Pv xs.length be U->Dd.nx be U)
 |_=>False
theorem MX{body:List Stmt}{g:DTG}(hp:PassesOwn (model X.prog X.w) X.A X.env X.xe)(hc:X.calm=true)(hi:DE X e te)(hg:DG X tg g)(hb:DSs X body td)
  (hs:∀x,foldedSetIterable e X.env x=pure x:=by intro _;rfl):DS X (.For tg e body [] pos) (L3 te g td):=by
 obtain⟨t0,p0,l0⟩:=hi
 obtain⟨t1,p1,l1⟩:=hg
 obtain⟨t2,p2,l2⟩:=hb
 refine⟨_,Kd hp hc (IA p0) p1 p2 hs,fun σ H ρ Z Dd De S h k1 k2 k3 k4=>?_⟩
 refine l0 σ H ρ Z _ _ S h fun d u ad H1 e1 S1 r h1=>?_
 split at h1
 ·rename_i l
  obtain⟨xs,hl,Pv,pv0,qX,turn,fin⟩:=h1
  obtain⟨rfl,_⟩:=r
  obtain⟨us0,hus0,_⟩:=S1.mu l xs hl
  refine⟨l,rfl,⟨us0,SqL.of hus0⟩,?_⟩
  refine⟨fun i m bn H'=>m=xs.length-i/\i<=xs.length/\∃be U,Ext X.K ad H1 U H'/\St0 X.K H' be U bn/\Pv i be U,⟨xs.length,by simp,zero_le _,ρ,ad,.refl,S1,pv0⟩,?_⟩
  rintro i m bn H' ⟨rfl,hi,be,U,e2,S2,pv⟩
  obtain⟨us,hus,ra⟩:=S2.mu l xs (qX i be U pv)
  by_cases hlt:i<xs.length
  ·have hiu:i<us.length:=by rw[<- ra.length];exact hlt
   refine .inr ⟨⟨us,us[i],SqL.of hus,by simp[hiu]⟩,fun u8 H2=>∃ci am,Ext X.K ad H1 am H2/\St0 X.K H2 ci am u8/\Pv (i+1) ci am,fun u8 H2 q=>⟨xs.length-(i+1),∅,rfl,hlt,q⟩,fun x H2 yl=>?_⟩
   obtain⟨eH,hx⟩:=yl
   subst eH
   obtain⟨u',h1',h2'⟩:=ra.get (i:=i) (d:=xs[i]) (by simp[hlt])
   have hx':=hx us (SqL.of hus)
   rw[h1'] at hx'
   cases hx'
   refine l1 bn H2 be U (.v xs[i]) _ _ _ S2 h2' (turn i xs[i] be U (by simp[hlt]) pv) fun ww wl db H4 e4 S4 h4=>?_
   have nxt:∀a b c dd,Ext X.K db H4 c dd->St0 X.K dd b c a->Pv (i+1) b c->∃ci am,Ext X.K ad H1 am dd/\St0 X.K dd ci am a/\Pv (i+1) ci am:=fun a b c dd e5 S5 q=>⟨b,c,e2.trans (e4.trans e5),S5,q⟩
   have ee:=e1.trans (e2.trans e4)
   exact l2 ww H4 wl db _ _ S4 h4 nxt (fun a b c d e5=>k2 a b c d (ee.trans e5)) (fun a b c d e5=>k1 a b c d (ee.trans e5)) nxt
  ·have ei:i=xs.length:=by omega
   subst ei
   exact .inl ⟨⟨us,SqL.of hus,by rw[<- ra.length];omega⟩,k1 bn be U H' (e1.trans e2) S2 (fin be U pv)⟩
 ·exact h1.elim
theorem PK{g:DTG}{tb:DTS}{Dd:AX}{ρ:Rho}{Z:Mu}:L3 te g tb Dd ρ Z=te ρ Z fun d ad=>match d with
 |.m l=>∃xs,ad l=some xs/\∃Pv:Nat->Rho->Mu->Prop,Pv 0 ρ ad/\(∀i be U,Pv i be U->U l=some xs) /\
   (∀i x be U,xs[i]? = some x->Pv i be U->g (.v x) be U fun ci am=>tb {Dd with nx:=Pv (i+1),ct:=Pv (i+1),bk:=Dd.nx} ci am)/\(∀be U,Pv xs.length be U->Dd.nx be U)
 |_=>False:=propext Iff.rfl
end
section
variable {X:Cx}{a b c:Expr}{ta tb tc:DTE}{pos:Pos}
theorem K2{op op':CmpOp}{rr rr':R2}{r r':D->D->Mu->DK->Prop}(ho:OpR X (compareOp op) rr)(lo:jY X.K rr r)(ho':OpR X (compareOp op') rr')(lo':jY X.K rr' r')(ha:DE X a ta)(hb:DE X b tb)(hc:DE X c tc)
  (hm:lastMarks [op,op'] [b,c]=false:=by with_unfolding_all rfl):DT X (.Compare a [op,op'] [b,c] pos) (dB (GP r r' ta tb tc)):=by
 obtain⟨t1,p1,l1⟩:=ha
 obtain⟨t2,p2,l2⟩:=hb
 obtain⟨t3,p3,l3⟩:=hc
 refine⟨_,LV ho ho' p1 p2 p3 hm,vj (fun σ H ρ Z Qd Q S h k=>?_)⟩
 refine l1 σ H ρ Z _ _ S h fun x ux ad H1 e1 S1 rx h1=>?_
 refine l2 σ H1 ρ ad _ _ S1 h1 fun y uy am H2 e2 S2 ry h2=>?_
 refine lo x y ux uy H2 am _ _ S2.mu (rx.ext S1.mu e2) ry h2 fun z uz bi H3 e3 ok3 rz h3=>?_
 have S3:St0 X.K H3 ρ bi σ:=⟨ok3,S2.rho.ext S2.mu e3⟩
 split at h3
 ·rename_i kk
  cases rz
  refine⟨kk,rfl,?_⟩
  cases kk with
  |true=>
   refine zo ?_
   refine l3 σ H3 ρ bi _ _ S3 (by simpa using h3) fun w uw db H4 e4 S4 rw' h4=>?_
   exact lo' y w uy uw H4 db _ _ S4.mu ((ry.ext S2.mu e3).ext S3.mu e4) rw' h4 fun d u U H' e5 ok r q=>k d u U H' (e1.trans (e2.trans (e3.trans (e4.trans e5)))) ⟨ok,S4.rho.ext S4.mu e5⟩ r q
  |false=>exact zL (k (.v (.bool false)) _ bi H3 (e1.trans (e2.trans e3)) S3 (Rp.bool false) (by simpa using h3))
 ·exact h3.elim
theorem cl3{k k':Str}{v v':Addr}{x:Str}{a:Addr}(n:(k==k')=false)(h:List.lookup x [(k,v),(k',v')]=some a):List.lookup x [(k',v'),(k,v)]=some a:=by
 simp only[lookup_cons,List.lookup_nil] at h ⊢
 cases e:x==k with
 |true=>
  have e':x=k:=by simpa using e
  subst e'
  rw[e] at h
  rw[n]
  exact h
 |false=>
  rw[e] at h
  cases e2:x==k' with
  |true=>rw[e2] at h;exact h
  |false=>rw[e2] at h;exact absurd h (by simp)
end
section
variable {X:Cx}{o e:Expr}{to te:DTE}{apos cpos pos:Pos}
noncomputable def Sx(to:DTE):DTE:=fun ρ Z Q=>to ρ Z fun x ad=>match x with
 |.m l=>(match ad l with
  |some xs=>∃d,xs[xs.length-1]? = some d/\Q (.v d) (aD ad l xs.dropLast)
  |none=>False)
 |_=>False
theorem RpL.eraseIdx{K:PySem.W.Frag}{Z:Mu}{H:Hp}:∀{ds:List PyData} {us:List V} (i:Nat),RpL K Z H ds us->RpL K Z H (ds.eraseIdx i) (us.eraseIdx i)
 |_,_,_,.nil=>.nil
 |_,_,0,.cons _ t=>t
 |_,_,i+1,.cons h t=>.cons h (RpL.eraseIdx i t)
noncomputable def G4(to te:DTE):DTE:=fun ρ Z Q=>to ρ Z fun x ad=>match x with
 |.m l=>te ρ ad fun y am=>(match y,am l with
  |.v (.int i),some xs=>(0<=i/\i<1000)/\∃d,xs[i.toNat]? = some d/\Q (.v d) (aD am l (xs.eraseIdx i.toNat))
  |_,_=>False)
 |_=>False
theorem QF{i:Int}{n:Nat}(h0:0<=i)(h:i.toNat<n):seqIndex? i n=some i.toNat:=by
 unfold seqIndex?
 simp only[Option.ite_none_right_eq_some,Option.some.injEq]<;>first|(split<;>(try split)<;>simp_all<;>omega)|(constructor<;>omega)|omega
theorem Ky(ho:DE X o to)(ha:DE X e te)(hbase:attributeBase o "pop" X.env (eval o X.env)=eval o X.env:=by rfl)
  (hfew:((backTo cpos (starEach [e] X.env)).all (fun x=>!x.1)&&(backToKw cpos (keywordEach [] X.env)).all (fun x=>x.1.isSome)
   && decide ([e].length+([]:List Keyword).length+(if ([]:List Keyword).isEmpty then 0 else 1)<30))=true:=by rfl)
  (hline:(apos.endLine==cpos.line)=true:=by rfl) (hs:starEach [e] X.env=(false,eval e X.env)::starEach [] X.env:=by rfl) (hplain:(backTo cpos (starEach [] X.env)).any (·.1)=false:=by rfl) :
  DE X (.Call (.Attribute o "pop" apos) [e] [] cpos) (G4 to te):=by
 obtain⟨t1,p1,l1⟩:=ho
 obtain⟨t2,p2,l2⟩:=ha
 refine⟨_,Im plainAttrs_list PySem.F.slot_list_pop PySem.F.type_list_pop LU p1 (ko p2 vB hs) hbase hfew hline hs hplain,fun σ H ρ Z Qd Q S h k=>?_⟩
 refine l1 σ H ρ Z _ _ S h fun x ux ad H1 e1 S1 rx h1=>?_
 cases x with
 |m l=>
  obtain⟨rfl,ds,hm⟩:=id rx
  obtain⟨us,hl,rl⟩:=S1.mu l ds hm
  refine⟨.inl ⟨rfl,us,SqL.of hl⟩,?_⟩
  refine l2 σ H1 ρ ad _ _ S1 h1 fun y uy am H2 e2 S2 ry h2=>?_
  obtain⟨_,ds2,hm2⟩:=rx.ext S1.mu e2
  obtain⟨us2,hl2,rl2⟩:=S2.mu l ds2 hm2
  rw[hm2] at h2
  split at h2
  ·rename_i i ds3 e3
   cases e3
   obtain⟨⟨i0,i1⟩,d,hd,q⟩:=h2
   cases ry
   obtain⟨u,hu,ru⟩:=rl2.get hd
   have hlt:i.toNat<us2.length:=by
    rcases lt_or_ge i.toNat us2.length with z|z
    ·exact z
    ·rw[getElem?_eq_none z] at hu;cases hu
   have ex:Ext X.K am H2 (aD am l (ds2.eraseIdx i.toNat)) (upd H2 l (.lst (us2.eraseIdx i.toNat))):=iF hm2
   exact⟨l,us2,i,i.toNat,u,rfl,rfl,hl2,∅,∅,QF i0 hlt,hu,k (.v d) u _ _ (e1.trans (e2.trans ex)) ⟨S2.mu.set hm2 (rl2.eraseIdx _),S2.rho.ext S2.mu ex⟩ (ru.ext S2.mu ex) q⟩
  ·exact h2.elim
 |v d=>exact h1.elim
 |s ns=>exact h1.elim
 |o _=>exact h1.elim
 |b _=>exact h1.elim
 |q _=>exact h1.elim
end
noncomputable def LI(cells:List (Str×Addr)):List (Str×Addr)->Prop
 |[]=>True
 |(k,v)::r=>cells.lookup k=some v/\LI cells r
theorem EZ{cells:List (Str×Addr)}:LI cells []:=trivial
theorem gN{cells r:List (Str×Addr)}{k:Str}{v:Addr}(h:cells.lookup k=some v)(t:LI cells r):LI cells ((k,v)::r):=⟨h,t⟩
theorem ui{cells:List (Str×Addr)}:∀{cl:List (Str×Addr)},LI cells cl->∀x a,cl.lookup x=some a->cells.lookup x=some a
 |[],_,_,_,h=>by simp at h
 |(k,v)::r,c,x,a,h=>by
  rw[lookup_cons] at h
  cases e:x==k with
  |true=>
   have e':x=k:=by simpa using e
   rw[e] at h
   subst e'
   rw[c.1];exact h
  |false=>
   rw[e] at h
   exact ui c.2 x a h
noncomputable abbrev DTX:=Rho->Mu->(Mu->Prop)->Prop
noncomputable abbrev XSp:=List D->Mu->(Mu->Prop)->Prop
end L2.DL
namespace L2
open PySem PySem.Spec PyProof.Rows DL
noncomputable def Rh(tabs:List Addr)(H:Hp):Prop:=∀b,H b=none\/(∃o xs,H b=some (.frz o (.lst xs)))\/(b∈tabs/\H b=some (.tbl #[]))
theorem Jv{P:Program}{w:World}{K:PySem.W.Frag}{mg mb:Str->Option Value}{CX:CXT}{k:Nat}{fa a:Addr}{fd:FuncData}{x:Str}{sp:Sp}{ca:Shared}{vs:List Value}{ns:List Int}(tabs:List Addr)
  (hT:∀p∈tabs,ca.heap.get? p=some (PySem.W.tabObj #[])/\K.lookup p=none) (hA2:∀c o p q,K.lookup c=some o->dZ o=some (p,q)->p∈tabs) (hC:∀p∈tabs,isCodeTable ca.heap p)
  (KX:K.In ca.heap) (hns:ca.heap.Ns mainGlobals mg) (hb:ca.heap.Ns builtinsNs mb) (hbb:∀x:Str,x ≠ "__name__"->mb x=bootBuiltins x) (hlim:ca.heap.NoLimit) (hg:ca.gens = #[])
  (ha:ca.heap.get? a=some {cls:=.type "list",data:=.seq vs.toArray}) (hi:IntsAre vs ns) (hl:ns.length<=sizeLine) (hr:nt k callerA)
  (F:∀base:Heap,K.In base->base.Ns mainGlobals mg->br P w K mg base CX k fa fd [x] sp) (hbind:∀(s:Shared) (u:Value),BindsTo s fd ⟨[u],[]⟩ [(x,u)])
  (hsp:∀H:Hp,DB K H->SqL K H a (ns.map V.int)->sp [.ref a] H (fun v _=>v = .bl true) fun _ _ _=>False)
  (hCX:∀H e s',CX [] H ca (fun _ _ _=>False) e s'->False) :
  codeAny (model P w) callerA (.call (.ref fa) ⟨[.ref a],[]⟩) (fun r s'=>r = .ok (.ret (.bool true))/\OldK ca.heap s'.heap/\s'.os=ca.os/\AllBare s'.gens) ca:=by
 have rv:=AM hi
 have lenV:=hi.length
 have ant:a ∉ tabs:=fun z=>by have:=(hT a z).1;rw[ha] at this;cases this
 have core:∀H:Hp,Rh tabs H->SqL K H a (ns.map V.int)->HOk P w H ca.heap->(∀b,H b≠none->b=a\/b∈tabs)->(H a≠none->K.lookup a=none)->(∀p∈tabs,H p=some (.tbl #[])) ->
   codeAny (model P w) callerA (.call (.ref fa) ⟨[.ref a],[]⟩) (fun r s'=>r = .ok (.ret (.bool true))/\OldK ca.heap s'.heap/\s'.os=ca.os/\AllBare s'.gens) ca:=by
  intro H hO hS hok hA hK hP
  have base_of:∀{b:Addr} {o:Obj},ca.heap.get? b=some o->H b=none->(Dh ca.heap H).get? b=some o:=fun e n=>Lo e n
  have noA:∀{b:Addr} {o:Obj} {es:Array DictEntry} {ep:Nat},ca.heap.get? b=some o->o.data = .dict es ep->H b=none:=fun {b o es ep} e d=>by
   cases q:H b with
   |none=>rfl
   |some u=>
    rcases hA b (by rw[q];simp) with e'|e'
    ·subst e'
     rw[ha] at e;cases e
     have d':Data.seq vs.toArray _=Data.dict es ep:=d
     cases d'
    ·rw[(hT b e').1] at e;cases e
     have d':Data.fields #[]=Data.dict es ep:=d
     cases d'
  have nsK:∀{b:Addr} {m:Str->Option Value},ca.heap.Ns b m->(Dh ca.heap H).Ns b m:=fun {b m} ⟨o,es,ep,e,d,r⟩=>⟨o,es,ep,base_of e (noA e d),d,r⟩
  have hKb:K.In (Dh ca.heap H):=fun b o e=>base_of (KX b o e) (by
   cases q:H b with
   |none=>rfl
   |some u=>
    rcases hA b (by rw[q];simp) with e'|e'
    ·subst e'
     rw[hK (by rw[q];simp)] at e;cases e
    ·have e2:=e;rw[show K.lookup b=none from (hT b e').2] at e2;cases e2)
  have hM:Mod K mg (Dh ca.heap H):=⟨hKb,nsK hns,⟨mb,nsK hb,hbb⟩,let ⟨mc,h1,h2⟩:=hlim;⟨mc,nsK h1,h2⟩⟩
  have e0:NF P w K mg (Dh ca.heap H) callerA [] ca H:=⟨rfl,hM,fun b o e=>NC e,Nat.le_of_eq (JR _ _),trivial,fun b hb=>absurd (show b∈([]:List Addr) from hb) (by simp),hok,.of_eq hg⟩
  have tb:DB K H:=fun c o p q h1 h2=>⟨#[],hP p (hA2 c o p q h1 h2),trivial,fun pos cv e=>by simp[codeAmong] at e⟩
  refine codeAny_mono ((F _ hKb (nsK hns)).run callerA [] ca H ⟨[.ref a],[]⟩ [.ref a] [.ref a] _ _ hr e0 (hbind ca (.ref a)) (.cons rfl .nil) (hsp H tb hS)) fun r s' h=>?_
  cases r with
  |error e=>exact (hCX H e s' h).elim
  |ok fl=>
   cases fl with
   |next=>exact False.elim h
   |brk=>exact False.elim h
   |cont=>exact False.elim h
   |ret u=>
    obtain⟨v,H',os,bare,un,hok',r',q⟩:=h
    have q':v = .bl true:=q
    subst q'
    obtain rfl:u=Value.bool true:=r'
    refine⟨rfl,⟨fun b o e=>?_,fun b o e=>un.there b o e (by simp)⟩,os,bare⟩
    cases q:H b with
    |none=>exact .inl (un.keep b o e q (by intro z;exact absurd (show b∈([]:List Addr) from z) (by simp)) (by simp))
    |some u=>
     rcases hO b with z|⟨ob,xs,z⟩|⟨zt,z⟩
     ·rw[q] at z;cases z
     ·have z2:=un.uI b ob _ z
      obtain⟨e1,_⟩:=hok b _ z
      obtain⟨e2,_⟩:=hok' b _ z2
      rw[e] at e1;cases e1
      exact .inl e2
     ·obtain⟨more,z2⟩:=un.uA b _ z
      have e2:s'.heap.get? b=some {cls:=.none,data:=.fields (#[]++more)}:=hok' b _ z2
      have e1:=(hT b zt).1
      rw[e] at e1;cases e1
      exact .inr (.inl ⟨hC b zt,rfl,#[],more,rfl,e2⟩)
 have okT:∀p∈tabs,ca.heap.get? p=some {cls:=.none,data:=.fields #[]}:=fun p hp=>(hT p hp).1
 cases hk:K.lookup a with
 |some o=>
  have e:=KX a o hk
  rw[ha] at e
  cases e
  refine core (fun b=>if b∈tabs then some (.tbl #[]) else none) (fun b=>?_) (.inr ⟨_,vs.toArray,_,hk,rfl,rfl,rfl,by rw[size_toArray,lenV];exact hl,by simpa using rv⟩) (fun b u z=>?_) (fun b z=>?_) (fun z=>absurd (if_neg ant) z) (fun p hp=>if_pos hp)
  ·by_cases hb:b∈tabs
   ·exact .inr (.inr ⟨hb,if_pos hb⟩)
   ·exact .inl (if_neg hb)
  ·by_cases hb:b∈tabs
   ·have z':=(if_pos hb).symm.trans z;cases z';exact okT b hb
   ·have z':=(if_neg hb).symm.trans z;cases z'
  ·by_cases hb:b∈tabs
   ·exact .inr hb
   ·exact absurd (if_neg hb) z
 |none=>
  refine core (fun b=>if b=a then some (.frz {cls:=.type "list",data:=.seq vs.toArray} (.lst (ns.map V.int))) else if b∈tabs then some (.tbl #[]) else none) (fun b=>?_) (.inl (.inr ⟨{cls:=.type "list",data:=.seq vs.toArray},if_pos rfl⟩)) (fun b u z=>?_) (fun b z=>?_) (fun _=>hk) (fun p hp=>by
   have:p≠a:=fun y=>ant (by rw[<- y];exact hp)
   exact (if_neg this).trans (if_pos hp))
  ·by_cases hb:b=a
   ·exact .inr (.inl ⟨_,_,if_pos hb⟩)
   ·by_cases hb2:b∈tabs
    ·exact .inr (.inr ⟨hb2,(if_neg hb).trans (if_pos hb2)⟩)
    ·exact .inl ((if_neg hb).trans (if_neg hb2))
  ·by_cases hb:b=a
   ·have z':=(if_pos hb).symm.trans z
    cases z'
    subst hb
    exact⟨ha,by rw[length_map];exact hl,vs,_,rv,ha⟩
   ·by_cases hb2:b∈tabs
    ·have z':=((if_neg hb).trans (if_pos hb2)).symm.trans z;cases z';exact okT b hb2
    ·have z':=((if_neg hb).trans (if_neg hb2)).symm.trans z;cases z'
  ·by_cases hb:b=a
   ·exact .inl hb
   ·by_cases hb2:b∈tabs
    ·exact .inr hb2
    ·exact absurd ((if_neg hb).trans (if_neg hb2)) z
theorem Mg{l:PySem.W.OpenLaw}{n k:Nat}{q:Program}{loose:List Str}{XP:(Str->Option Value)->Heap->Prop}{YP:World->Heap->Prop}{d:DefRec}{K:Params->PySem.W.Frag}{CX:World->CXT}{sp:World->Sp}{x:Str}(tabs:List Addr)
  (hn:l.most=some n) (hn2:n<=sizeLine) (hdf:d.params.defaults=[]) (hr:nt k callerA)
  (hY:∀(w:World) (h:Heap),YP w h->(K w.params).In h/\(∀p∈tabs,h.get? p=some (PySem.W.tabObj #[])/\(K w.params).lookup p=none)/\(∀p∈tabs,isCodeTable h p))
  (hA2:∀(w:World) c o p q,(K w.params).lookup c=some o->dZ o=some (p,q)->p∈tabs)
  (F:∀(w:World) (mg:Str->Option Value) (fa:Addr) (h:Heap),(K w.params).In h->h.Ns mainGlobals mg->mg d.name=some (.ref fa) ->
   ∃fd:FuncData,(∀(s:Shared) (u:Value),BindsTo s fd ⟨[u],[]⟩ [(x,u)]) /\
    ∀base:Heap,(K w.params).In base->base.Ns mainGlobals mg->br l.prog w (K w.params) mg base (CX w) k fa fd [x] (sp w))
  (hsp:∀(w:World) (H:Hp) (a:Addr) (ns:List Int),ns.length<=n->DB (K w.params) H->SqL (K w.params) H a (ns.map V.int)->sp w [.ref a] H (fun v _=>v = .bl true) fun _ _ _=>False)
  (hCX:∀(w:World) (H:Hp) (s:Shared) (e:Value) (s':Shared),CX w [] H s (fun _ _ _=>False) e s'->False) :
  PySem.W.WalkO q loose XP YP l.row.toRowW d [] (fun f vs=>PySem.call f vs):=by
 refine Att.EU hn hdf fun w gV ca mg mb fa o pm cd doc a vs ns G Y ho hd hcd hmg hobj hints hlen hg=>?_
 obtain⟨KX,hT,hC⟩:=hY w _ Y
 obtain⟨fd,hb,hF⟩:=F w mg fa _ KX G.T.g hmg
 exact Jv tabs hT (hA2 w) hC KX G.T.g G.T.b G.T.builtins G.T.nolimit hg hobj hints (le_trans hlen hn2) hr hF hb (fun H hO hS=>hsp w H a ns hlen hO hS) fun H e s'=>hCX w H ca e s'
end L2
namespace L2.DL
open PySem PySem.Spec PyProof.Rows
theorem NZ{K:PySem.W.Frag}{l:List (Addr×Str)}(h:(K.filterMap fun p=>dZ p.2)=l){c:Addr}{o:Obj}{P:Addr}{q:Str}(e:K.lookup c=some o)(e2:dZ o=some (P,q)):(P,q)∈l:=by
 rw[<- h]
 have mem:∀(L:List (Addr×Obj)),List.lookup c L=some o->(c,o)∈L:=fun L=>by
  induction L with
  |nil=>intro z;cases z
  |cons a r ih=>
   intro z
   rw[lookup_cons] at z
   by_cases y:c=a.1
   ·rw[y] at z ⊢;simp at z;rw[<- z];exact mem_cons_self
   ·rw[show (c==a.1)=false from by simpa using y] at z
    exact mem_cons_of_mem _ (ih z)
 exact List.mem_filterMap.mpr ⟨(c,o),mem K e,e2⟩
theorem Jy{K:PySem.W.Frag}{h:Heap}{c P:Addr}{o:Obj}{q:Str}(X:K.In h)(l:K.lookup c=some o)(e:dZ o=some (P,q)):isCodeTable h P:=by
 have ho:=X _ _ l
 unfold dZ at e
 split at e
 ·rename_i cn vs hcls hd
  split at e
  ·rename_i hcn
   subst hcn
   split at e
   ·rename_i e11 e18
    split at e
    ·cases e
     exact⟨c,o,vs,ho,hcls,hd,by assumption⟩
    ·cases e
   ·cases e
  ·cases e
 ·cases e
theorem M3{K:PySem.W.Frag}{c P:Addr}{q:Str}(h:(K.lookup c).bind dZ=some (P,q)):∃o,K.lookup c=some o/\dZ o=some (P,q):=Option.bind_eq_some_iff.mp h
theorem Ij{K T:PySem.W.Frag}{h:Heap}(X:PySem.W.Frag.In (K++T) h):K.In h:=fun b o e=>X b o (by
 show List.lookup b (K++T)=some o
 rw[List.lookup_append,show List.lookup b K=some o from e];rfl)
section
noncomputable def Of(K:PySem.W.Frag)(J:It)(xs:List PyData)(ad:Mu)(H1:Hp):Prop:=∀am H2,Ext K ad H1 am H2->bJ K am H2->(∀a ds,ad a=some ds->am a=some ds)->∀i,(i<xs.length->J.go i H2/\∀x H',J.yld i H2 x H'->∃d,xs[i]? = some d/\Am H2 H'/\Rp K am H' d x)/\(i=xs.length->J.stop i H2)
noncomputable def O1(K:PySem.W.Frag)(wi:TI)(src:DTI):Prop:=∀(σ:St) (H:Hp) (ρ:Rho) (Z:Mu) (Qd:List PyData->Mu->Prop) (R:It->Hp->Prop),St0 K H ρ Z σ->src ρ Z Qd ->
 (∀xs ad H1 J,Ext K Z H ad H1->St0 K H1 ρ ad σ->Of K J xs ad H1->Qd xs ad->R J H1)->wi σ H R
noncomputable def DIW(X:Cx)(tg iter:Expr)(src:DTI):Prop:=∃wi,PI X tg iter wi/\O1 X.K wi src
theorem eX{X:Cx}{N':List Str}{scope:Scope}{cl:List (Str×Addr)}{elt iter tg:Expr}{ifs:List Expr}{pos:Pos}{cap:List (Option Nat)}{src:DTI}{g:DTG}{c:DTT}{te:DTE}(hc:X.calm=X.calm)
  (hi:DIW X tg iter src) (hg:∀fp bv ce,DG (aG X N' scope cl fp bv ce) tg g) (hif:∀fp bv ce,Er (aG X N' scope cl fp bv ce) ifs c) (he:∀fp bv ce,DE (aG X N' scope cl fp bv ce) elt te)
  (hclos:closureFor scope X.env=pure cl) (hcell:∀y∈scope.names,y.2≠.cell) (hkind:scope.kind = .function) (hnames:∀y∈scope.names,y.2 = .local->scope.names.lookup y.1=some .local)
  (hcl:∀x a,cl.lookup x=some a->X.env.cells.lookup x=some a) (hhas:∀x,(relabel scope X.env).names.lookup x=some .cell\/(relabel scope X.env).names.lookup x=some .free->∃a,cl.lookup x=some a)
  (hlen:cap.length=N'.length) (hcap:∀(i j:Nat) (x:Str),cap[i]? = some (some j)->N'[i]? = some x->X.N[j]? = some x/\Vis X.env.scope x/\X.env.kindOf x≠some .local/\((relabel scope X.env).names.lookup x=some .cell\/(relabel scope X.env).names.lookup x=some .free))
  (hs:∀x,foldedSetIterable iter X.env x=pure x:=by intro _;rfl):DE X (.ListComp elt [⟨tg,iter,ifs,0⟩] scope pos) (nN cap src g c te):=by
 refine Kx fun pins s σ H ρ Z Qd Q I S h k=>?_
 obtain⟨wi,pw,li⟩:=hi
 rw[eval_ListComp]
 refine wpAny_comprehension_free (use:=none) rfl hs hclos hkind hnames (thn (pw pins s σ H _ I (li σ H ρ Z _ (fun J H1=>∃xs ad,Ext X.K Z H ad H1/\St0 X.K H1 ρ ad σ/\Of X.K J xs ad H1/\xs.length<=1000/\∃f:PyData->Option PyData,
   (∀x∈xs,∀U:Mu,(∀a ds,ad a=some ds->U a=some ds)->g (.v x) (bu cap ρ) U fun ci am=>Le (bu cap ρ) ci/\c ci am fun b bi=>
    if b=true then te ci bi fun d db=>db=U/\(match d with|.v y=>f x=some y|_=>False) else bi=U/\f x=none)/\Qd (.v (.list (xs.filterMap f))) ad) S h (fun xs ad H1 J e1 S1 it q=>⟨xs,ad,e1,S1,it,q⟩)))
  fun v s1 h1=>thn h1 fun itv s2 h2=>?_)
 obtain⟨it,fp,tn,J,H2,rfl,I2,T,st2,f2,xs,ad,e1,S1,itok,hxs,f,body,fin⟩:=h2
 refine wpAny_newObj_type (wpAny_newFunctionEnv hcell (by intro y hy;simp at hy) (fun dL ii io=>?_) hkind)
 dsimp only at ii io ⊢
 have hfree2:H2 s2.heap.objs.size=none:=I2.hok.fresh (le_refl _)
 have hK2:X.K.lookup s2.heap.objs.size=none:=by
  cases z:X.K.lookup s2.heap.objs.size with
  |none=>rfl
  |some o=>exact absurd (Heap.lt_size (I2.kIn _ _ z)) (lt_irrefl _)
 have I3:Inv X pins σ (upd H2 s2.heap.objs.size (.lst [])) {s2 with heap:=s2.heap.push {cls:=.type "list",dict:=none,data:=.seq ([]:List Value).toArray}}:=
  I2.laid (t':=s2.toks) (fun b u e=>Heap.get?_push_of_some _ e) (le_refl _) ⟨zero_le _,[],0,.nil,Heap.get?_push_size _ rfl⟩
 generalize hH:s2.heap.push {cls:=.type "list",dict:=none,data:=.seq ([]:List Value).toArray} = hp3 at ii io I3 ⊢
 have hsz3:hp3.objs.size=s2.heap.objs.size+1:=by rw[<- hH,Heap.size_push]
 have kept3:∀b o,hp3.get? b=some o->dL.get? b=some o:=fun b o e=>io.extBut b o (ne_of_lt (Heap.lt_size e)) (Heap.get?_push_of_some _ e)
 have old3:∀b o,s2.heap.get? b=some o->hp3.get? b=some o:=fun b o e=>by rw[<- hH];exact Heap.get?_push_of_some _ e
 have fplt:∀b∈fp,b<s2.heap.objs.size:=fun b hb=>by obtain⟨o,e,_⟩:=T.obj 0 _ st2 b hb;exact Heap.lt_size e
 have fpst:∀b∈fp,b ∉ frs X.stack:=fun b hb hz=>by
  rcases List.mem_cons.mp (I2.lz b hz) with e|e
  ·exact (f2 b hb).2.1 e
  ·exact (f2 b hb).2.2.1 e
 obtain⟨s3,hs3⟩:∃s3:Shared,s3={s2 with heap:=hp3}:=⟨_,rfl⟩
 obtain⟨H3,hH3⟩:∃H3:Hp,H3=upd H2 s2.heap.objs.size (.lst []):=⟨_,rfl⟩
 have heap3:s3.heap=hp3:=by rw[hs3]
 rw[<- hH3] at I3
 have I3':Inv X pins σ H3 s3:=by rw[hs3];exact I3
 have hloc:H3 hp3.objs.size=none:=by have:=I3'.hok.fresh (a:=hp3.objs.size) (by rw[heap3];exact le_refl _);exact this
 have okc:(aG X N' scope cl fp s3 H3).Ok:=by
  refine⟨I3.ok.mod,?_,I3.ok.glob,I3.ok.blt,le_refl _,fun x y a h1 h2=>I3.ok.inj x y a (hcl x a h1) (hcl y a h2),fun x hx=>hhas x hx,fun x a h=>(nomatch h),I3.ok.hd,I3.ok.qt,I3.ok.frames,.inl rfl,fun b hb=>⟨?_,fun x a h=>(f2 b hb).2.2.2.2.1 x a (hcl x a h)⟩,
   I3'.bs,le_trans I3.ok.bsz I3'.sz,fun b o e hb=>?_,fun b hb=>fpst b hb,I3'.stack,I3'.tL⟩
  ·exact hkind
  ·show b≠s3.heap.objs.size
   rw[heap3,hsz3]
   exact ne_of_lt (lt_succ_of_lt (fplt b hb))
  ·rcases (f2 b hb).2.2.2.1 with z|z
   ·exact I3.ok.EV b o e z
   ·exact absurd (lt_of_lt_of_le (Heap.lt_size (I3.ok.bs b o e).1) z) (lt_irrefl _)
 have I4:Inv (aG X N' scope cl fp s3 H3) [] (bu cap σ) H3 {s2 with heap:=dL,toks:=s2.toks+([]:List (Str×Value)).length}:=by
  refine⟨okc,by show s2.os=s3.os;rw[hs3],I3.bare,Un.kept (by show ∀b o,s3.heap.get? b=some o->_;rw[heap3];exact kept3),⟨_,(by show dL.Ns s3.heap.objs.size _;rw[heap3];exact ii),fun i x v e1 e2 e3=>?_⟩,fun x a h=>?_,(by show H3 s3.heap.objs.size=none;rw[heap3];exact hloc),fun x a h=>I3.mv x a (hcl x a h),fun p hp=>?_,I3.hok.kept kept3,?_⟩
  ·obtain⟨j,h1,h2⟩:=oT e2
   obtain⟨hN,hv,hnl,hk⟩:=hcap i j x h1 e1
   obtain⟨m,_,hl⟩:=I3.loc
   obtain⟨u,r,lk⟩:=hl j x v hN h2 hv
   refine⟨u,r,.inr ⟨hk,?_⟩⟩
   obtain⟨a,ha⟩:=hhas x hk
   rcases lk with ⟨z,_⟩|⟨_,a',z1,z2⟩
   ·exact absurd z hnl
   ·have:a'=a:=by have q:=hcl x a ha;rw[z1] at q;exact Option.some.inj q
    subst this
    obtain⟨o,ho,hd⟩:=z2
    exact⟨a',ha,o,kept3 _ _ ho,hd⟩
  ·obtain⟨v,o,ho,hd⟩:=I3.cell x a (hcl x a h)
   exact⟨v,o,kept3 _ _ ho,hd⟩
  ·have hp':p∈X.pn++pins:=mem_append_left _ (by simpa using (show p∈X.pn++[] from hp))
   obtain⟨z1,z2,z3,z4,z5⟩:=I3'.pin p hp'
   refine⟨kept3 _ _ (by rw[<- heap3];exact z1),z2,(show p.1≠s3.heap.objs.size from ne_of_lt (Heap.lt_size z1)),fun z=>?_,z5⟩
   rcases List.mem_cons.mp (I3'.lz p.1 z) with e|e
   ·exact z3 e
   ·exact z4 e
  ·show (bu cap σ).length=N'.length
   unfold bu
   rw[length_map]
   exact hlen
 have ls:ad s2.heap.objs.size=none:=S1.mu.free hfree2
 have sub1:∀ys a ds,ad a=some ds->aD ad s2.heap.objs.size ys a=some ds:=fun ys a ds e=>by
  have:a≠s2.heap.objs.size:=fun z=>by rw[z,ls] at e;cases e
  rw[aV this];exact e
 have loop:codeAny (model X.prog X.w) X.A (.compLoop (.ListComp elt [⟨tg,iter,ifs,0⟩] scope pos) 0 (.ref it) (.ref s2.heap.objs.size) (aG X N' scope cl fp s3 H3).env)
   (compPost (model X.prog X.w) X.A X.xe none (EP X pins σ Q) (.ref s2.heap.objs.size) hp3.objs.size) {s2 with heap:=dL,toks:=s2.toks+([]:List (Str×Value)).length}:=by
  refine kj (fun n s'=>∃(i:Nat) (dl:St) (Hc:Hp),n=xs.length-i/\i<=xs.length/\Inv (aG X N' scope cl fp s3 H3) [] dl Hc s'/\tn i s'.heap/\(∀b∈fp,Hc b=none) /\
   St0 X.K Hc (bu cap ρ) (aD ad s2.heap.objs.size ((xs.take i).filterMap f)) dl/\Ext X.K ad H2 (aD ad s2.heap.objs.size ((xs.take i).filterMap f)) Hc) ?_ xs.length
   ⟨0,bu cap σ,H3,by simp,zero_le _,I4,T.keep 0 _ _ st2 (fun b hb o e=>kept3 b o (old3 b o e)),fun b hb=>?_,?_,?_⟩
  ·rintro n s' ⟨i,dl,Hc,rfl,hi,Ic,tc,frc,Sc,Ec⟩
   have stat:∀{Hd:Hp},(∀b∈fp,Hd b=none)->∀b∈fp,qT (aG X N' scope cl fp s3 H3) [] Hd b:=fun hn b hb=>
    ⟨hn b hb,(okc.exf b hb).1,fpst b hb,.inl hb,fun x a h=>(okc.exf b hb).2 x a h,fun p hp=>(f2 b hb).2.2.2.2.2 p (mem_append_left _ (by simpa using (show p∈X.pn++[] from hp)))⟩
   obtain⟨go,stop⟩:=itok _ Hc Ec Sc.mu (sub1 _) i
   by_cases hlt:i<xs.length
   ·obtain⟨g1,y1⟩:=go hlt
    refine thn (T.item (aG X N' scope cl fp s3 H3) rfl rfl rfl (fun z=>z) i [] s' dl Hc (fun _ _=>False) Ic (stat frc) tc g1) fun r s4 hq0=>?_
    obtain⟨u,hr,h4⟩:=hq0
    subst hr
    refine thn h4 fun _ s5 hq0=>?_
    obtain⟨x,H5,I5,r5,y5,st5,fr5⟩:=hq0
    obtain⟨d,hd,sm,rd⟩:=y1 x H5 y5
    have I5':=I5.pinned (stat fr5) (T.obj _ _ st5)
    have e5:Ext X.K _ Hc _ H5:=.of_same (Z:=aD ad s2.heap.objs.size ((xs.take i).filterMap f)) sm
    have S5:St0 X.K H5 (bu cap ρ) (aD ad s2.heap.objs.size ((xs.take i).filterMap f)) dl:=⟨Sc.mu.FH e5 sm,Sc.rho.ext Sc.mu e5⟩
    obtain⟨gt,pg,lg⟩:=hg fp s3 H3
    have hmem:d∈xs:=mem_of_getElem? hd
    refine thn (pg _ s5 dl H5 x u (fun bn H'=>∃be U,Ext X.K (aD ad s2.heap.objs.size ((xs.take i).filterMap f)) H5 U H'/\St0 X.K H' be U bn/\Le (bu cap ρ) be/\c be U fun b bi=>
      if b=true then te be bi fun d' db=>db=aD ad s2.heap.objs.size ((xs.take i).filterMap f)/\(match d' with|.v y=>f d=some y|_=>False) else bi=aD ad s2.heap.objs.size ((xs.take i).filterMap f)/\f d=none) I5' r5
     (lg dl H5 (bu cap ρ) _ (.v d) x _ _ S5 rd (body d hmem _ (sub1 _)) fun bn be U H' e' S' q=>⟨be,U,e',S',q⟩)) fun _ s6 ⟨im,H6,I6,kw,sK,e6,S6,le6,q6⟩=>?_
    refine thn (hif fp s3 H3 _ s6 im H6 kw sK _ (fun b H'=>∃U,Ext X.K sK H6 U H'/\St0 X.K H' kw U im/\if b=true then te kw U fun d' db=>db=aD ad s2.heap.objs.size ((xs.take i).filterMap f)/\(match d' with|.v y=>f d=some y|_=>False) else U=aD ad s2.heap.objs.size ((xs.take i).filterMap f)/\f d=none)
     I6 S6 q6 fun b U H' e' S' q=>⟨U,e',S',q⟩) fun b s7 ⟨H7,I7,po,e7,S7,q7⟩=>?_
    have again:∀{H9:Hp} {s9:Shared},Inv (aG X N' scope cl fp s3 H3) ([]++qB fp s5.heap) im H9 s9->bJ X.K (aD ad s2.heap.objs.size ((xs.take (i+1)).filterMap f)) H9->iQ X.K (aD ad s2.heap.objs.size ((xs.take (i+1)).filterMap f)) H9 (bu cap ρ) im ->
      Ext X.K ad H2 (aD ad s2.heap.objs.size ((xs.take (i+1)).filterMap f)) H9->∃m,m<xs.length-i/\∃(i:Nat) (dl:St) (Hc:Hp),m=xs.length-i/\i<=xs.length/\Inv (aG X N' scope cl fp s3 H3) [] dl Hc s9/\tn i s9.heap/\(∀b∈fp,Hc b=none) /\
       St0 X.K Hc (bu cap ρ) (aD ad s2.heap.objs.size ((xs.take i).filterMap f)) dl/\Ext X.K ad H2 (aD ad s2.heap.objs.size ((xs.take i).filterMap f)) Hc:=fun {H9 s9} I9 m9 r9 e9=>by
     refine⟨xs.length-(i+1),∅,i+1,im,H9,rfl,hlt,I9.eV,T.keep _ _ _ st5 fun b hb o e=>(I9.pin (b,o) (mem_append_right _ (mem_append_right _ (bK hb e)))).1,fun b hb=>?_,⟨m9,r9⟩,e9⟩
     obtain⟨o,e,_⟩:=T.obj _ _ st5 b hb
     exact (I9.pin (b,o) (mem_append_right _ (mem_append_right _ (bK hb e)))).2.1
    cases b with
    |false=>
     have q8:po=aD ad s2.heap.objs.size ((xs.take i).filterMap f)/\f d=none:=by simpa using q7
     refine zL ?_
     have et:(xs.take (i+1)).filterMap f=(xs.take i).filterMap f:=by rw[BO hd,q8.2];simp
     have sn:aD ad s2.heap.objs.size ((xs.take (i+1)).filterMap f)=po:=by rw[et,q8.1]
     refine again I7 (by rw[sn];exact S7.mu) (by rw[sn];exact S7.rho.le le6) ?_
     rw[sn]
     exact Ec.trans (e5.trans (e6.trans e7))
    |true=>
     refine zo ?_
     obtain⟨t8,p8,l8⟩:=he fp s3 H3
     refine thn (p8 _ s7 im H7 (fun v H'=>∃y,Ext X.K po H7 (aD ad s2.heap.objs.size ((xs.take i).filterMap f)) H'/\St0 X.K H' kw (aD ad s2.heap.objs.size ((xs.take i).filterMap f)) im/\Rp X.K (aD ad s2.heap.objs.size ((xs.take i).filterMap f)) H' y v/\f d=some y) I7
      (l8 im H7 kw po _ _ S7 (by simpa using q7) fun d' v pi H8 e8 S8 r8 q8=>?_)) fun v s8 ⟨v8,H8,I8,r8,y,e8,S8,ry,fy⟩=>?_
     ·obtain⟨rfl,q8⟩:=q8
      cases d' with
      |v y=>exact⟨y,e8,S8,r8,q8⟩
      |m _=>exact q8.elim
      |s _=>exact q8.elim
      |o _=>exact q8.elim
      |b _=>exact q8.elim
      |q _=>exact q8.elim
     ·obtain⟨us,hacc,rus⟩:=S8.mu s2.heap.objs.size _ aE
      have hle:((xs.take i).filterMap f).length<=1000:=le_trans (List.length_filterMap_le _ _) (le_trans (by rw[length_take];exact Nat.min_le_right _ _) hxs)
      refine thn (pX (X:=aG X N' scope cl fp s3 H3) _ s8 im H8 (.ref s2.heap.objs.size) [v8] (.ref s2.heap.objs.size) [v] (fun _ H'=>H'=upd H8 s2.heap.objs.size (.lst (us++[v8]))) I8 rfl (.cons r8 .nil) ⟨_,us,v8,rfl,rfl,hacc,by rw[<- rus.length];exact fK hle,rfl⟩) fun _ s9 hq0=>?_
      obtain⟨_,H9,I9,_,e9⟩:=hq0
      subst e9
      have et:(xs.take (i+1)).filterMap f=(xs.take i).filterMap f++[y]:=by rw[BO hd,fy];rfl
      have mset:aD (aD ad s2.heap.objs.size ((xs.take i).filterMap f)) s2.heap.objs.size ((xs.take (i+1)).filterMap f)=aD ad s2.heap.objs.size ((xs.take (i+1)).filterMap f):=ig
      have ex:Ext X.K (aD ad s2.heap.objs.size ((xs.take i).filterMap f)) H8 (aD ad s2.heap.objs.size ((xs.take (i+1)).filterMap f)) (upd H8 s2.heap.objs.size (.lst (us++[v8]))):=by
       rw[<- mset]
       exact iF aE
      refine again I9 ?_ ((S8.rho.le le6).ext S8.mu ex) (Ec.trans (e5.trans (e6.trans (e7.trans (e8.trans ex)))))
      rw[<- mset]
      refine S8.mu.set aE ?_
      rw[et]
      exact rus.append (.cons ry .nil)
   ·have ei:i=xs.length:=by omega
    subst ei
    refine thn (T.done (aG X N' scope cl fp s3 H3) rfl rfl rfl (fun z=>z) _ [] s' dl Hc (fun _ _=>False) Ic (stat frc) tc (stop rfl)) fun r s4 hq0=>?_
    obtain⟨hr,I5⟩:=hq0
    subst hr
    rw[take_length] at Sc Ec
    obtain⟨m,hn,_⟩:=I5.loc
    refine⟨m,(by have z:s4.heap.Ns s3.heap.objs.size m:=hn;rw[heap3] at z;exact z),fun h' hs'=>?_⟩
    have kp:∀b o,b<s2.heap.objs.size->s4.heap.get? b=some o->h'.get? b=some o:=fun b o hb e=>hs'.extBut b o (by rw[hsz3];exact ne_of_lt (lt_succ_of_lt hb)) e
    have hcC:Hc hp3.objs.size=none:=by have z:Hc s3.heap.objs.size=none:=I5.free;rw[heap3] at z;exact z
    have hok':HOk X.prog X.w Hc h':=fun b ob e=>by
     refine (I5.hok b ob e).qX (fun cc v hcc q=>hs'.extBut cc v ?_ q) (fun _ q=>q) fun _ _ q=>q
     rintro rfl
     rcases hcc with z|z
     ·rw[<- z,hcC] at e;cases e
     ·rw[hcC] at z;cases z
    have u1:Un (frs X.stack) fp H2 H3 s2.heap s3.heap:=by rw[heap3,hH3];exact Un.laid old3 (le_refl _) hfree2
    have u2:Un (frs X.stack) fp H3 Hc s3.heap s4.heap:=I5.base
    have If:Inv X pins σ Hc {s4 with heap:=h'}:=I2.AK (ch:=fp) (by show s4.os=s2.os;have z:s4.os=s3.os:=I5.os;rw[z,hs3]) (Un.after (u1.trans u2) kp) hok' I5.bare fun b hb=>⟨(f2 b hb).2.2.2.1,(f2 b hb).2.1,(f2 b hb).2.2.2.2.1,(f2 b hb).2.2.2.2.2⟩
    obtain⟨us,hacc,rus⟩:=Sc.mu s2.heap.objs.size _ aE
    have shr:∀a,aD ad s2.heap.objs.size (xs.filterMap f) a=none->ad a=none:=fun a e=>by
     by_cases ha:a=s2.heap.objs.size
     ·rw[ha];exact ls
     ·rw[aV ha] at e;exact e
    have eF:Ext X.K ad H2 ad Hc:=⟨Ec.keep,Ec.tb,fun _ ds q=>⟨ds,q⟩,fun _ q _=>q,Ec.st,fun _ c q=>⟨c,q⟩⟩
    have mF:bJ X.K ad Hc:=⟨fun a ds q=>by
     obtain⟨ys,z1,z2⟩:=Sc.mu a ds (sub1 _ a ds q)
     exact⟨ys,z1,z2.shrink shr⟩,Sc.mu.tab,fun a c q=>let ⟨z,o,w1,w2⟩:=Sc.mu.box a c q;⟨z,o,w1,w2.shrink shr⟩⟩
    exact⟨.ref s2.heap.objs.size,Hc,If,rfl,k (.v (.list (xs.filterMap f))) _ ad Hc (e1.trans eF) ⟨mF,S1.rho.ext S1.mu eF⟩ (Rp.list hacc ls (rus.shrink shr)) fin⟩
  ·have z:b≠s2.heap.objs.size:=ne_of_lt (fplt b hb)
   rw[hH3,aS z]
   exact (f2 b hb).1
  ·have ex:=iw (o:=.lst []) (ds:=[]) S1.mu hfree2 hK2
   rw[hH3]
   exact⟨S1.mu.mut .nil hfree2 hK2,(S1.rho.ext S1.mu ex).cap⟩
  ·rw[hH3]
   exact iw (o:=.lst []) (ds:=[]) S1.mu hfree2 hK2
 have envE:(aG X N' scope cl fp s3 H3).env=compEnvC scope cl hp3.objs.size X.env:=by show compEnvC scope cl s3.heap.objs.size X.env=_;rw[heap3]
 rw[envE] at loop
 exact codeAny_compStart_list loop (T.self X.A 0 _ _ _ (T.keep 0 _ _ st2 (fun b hb o e=>kept3 b o (old3 b o e))) loop)
end
noncomputable def QT(ds:List D):PQ:=fun K u Z H=>∃a us,u = .ref a/\H a=some (.tup us)/\j7 K Z H ds us
mutual
theorem Rp.sub{K:PySem.W.Frag}{Z ad:Mu}{H:Hp}(h:∀a,ad a=none->Z a=none):∀{d:PyData} {u:V},Rp K ad H d u->Rp K Z H d u
 |_,_,.none=>.none
 |_,_,.bool b=>.bool b
 |_,_,.int i=>.int i
 |_,_,.str x=>.str x
 |_,_,.list a b c=>.list a (h _ b) (RpL.sub h c)
 |_,_,.tuple a c=>.tuple a (RpL.sub h c)
theorem RpL.sub{K:PySem.W.Frag}{Z ad:Mu}{H:Hp}(h:∀a,ad a=none->Z a=none):∀{ds:List PyData} {us:List V},RpL K ad H ds us->RpL K Z H ds us
 |_,_,.nil=>.nil
 |_,_,.cons a b=>.cons (Rp.sub h a) (RpL.sub h b)
end
structure dE(Z U:Mu):Prop where
 l:∀b ds,Z b=some ds->U b=some ds
 b:∀b c,Z.b b=some c->U.b b=some c
noncomputable instance {Z U:Mu}:CoeFun (dE Z U) fun _=>∀b ds,Z b=some ds->U b=some ds:=⟨dE.l⟩
theorem dE.refl{Z:Mu}:dE Z Z:=⟨fun _ _ e=>e,fun _ _ e=>e⟩
theorem dE.none{Z U:Mu}(h:dE Z U){b:Addr}(e:U b=none):Z b=none:=by
 cases z:Z b with
 |none=>rfl
 |some ds=>rw[h b ds z] at e;cases e
theorem xQ{K:PySem.W.Frag}{Z U:Mu}{H:Hp}(ok:bJ K U H)(s:dE Z U):bJ K Z H:=⟨fun a ds z=>by
 obtain⟨xs,h1,h2⟩:=ok.lst a ds (s a ds z)
 exact⟨xs,h1,h2.sub fun b hb=>s.none hb⟩,ok.tab,fun a c z=>by
 obtain⟨y,o,h1,h2⟩:=ok.box a c (s.b a c z)
 exact⟨y,o,h1,h2.shrink fun b hb=>s.none hb⟩⟩
theorem dE.set{Z U:Mu}{p:Addr}{ds:List PyData}(h:dE Z U)(n:Z p=Option.none):dE Z (aD U p ds):=⟨fun b es e=>by
 have:b≠p:=fun z=>by rw[z,n] at e;cases e
 rw[aV this];exact h b es e,h.b⟩
theorem dE.box{Z U:Mu}{p:Addr}{c:Box}(h:dE Z U)(n:Z.b p=Option.none):dE Z (bo U p c):=⟨h.l,fun b x e=>by
 have:b≠p:=fun z=>by rw[z,n] at e;cases e
 rw[bW this];exact h.b b x e⟩
noncomputable def frz(Z:Mu)(Qd:DK):DK:=fun d U=>match d with
 |.v x=>dE Z U/\Qd (.v x) Z
 |.m a=>(Z a=none/\dE Z U)/\∃es,U a=some es/\Qd (.v (.list es)) Z
 |_=>False
theorem uL{P:Program}{w:World}{K:PySem.W.Frag}{mg:Str->Option Value}{base:Heap}{CX:CXT}{k:Nat}{f:Addr}{fd:FuncData}{ps:List Str}{sp sp':DSp}(F:br P w K mg base CX k f fd ps (spD K sp))
  (h:∀ds Z Qd,sp' ds Z Qd->sp ds Z (frz Z Qd)):br P w K mg base CX k f fd ps (spD K sp'):=by
 refine F.imp fun vs H Q E h'=>?_
 obtain⟨ds,Z,Qd,ok,r,s,kk⟩:=h'
 refine⟨ds,Z,_,ok,r,h _ _ _ s,fun d u U H' e ok' rd q=>?_⟩
 cases d with
 |v x=>
  obtain⟨sb,q⟩:=q
  exact kk (.v x) u Z H' ⟨e.keep,e.tb,fun b ds z=>⟨ds,z⟩,fun _ z _=>z,e.st,fun _ c z=>⟨c,z⟩⟩ (xQ ok' sb) (show Rp K Z H' x u from (show Rp K U H' x u from rd).sub fun b hb=>sb.none hb) q
 |m a=>
  obtain⟨⟨n,sb⟩,es,he,q⟩:=q
  obtain⟨rfl,_⟩:=rd
  obtain⟨xs,h1,h2⟩:=ok'.lst a es he
  exact kk (.v (.list es)) (.ref a) Z H' ⟨e.keep,e.tb,fun b ds z=>⟨ds,z⟩,fun _ z _=>z,e.st,fun _ c z=>⟨c,z⟩⟩ (xQ ok' sb) (show Rp K Z H' (.list es) (.ref a) from .list h1 n (h2.sub fun b hb=>sb.none hb)) q
 |s ns=>exact q.elim
 |o a=>exact q.elim
 |b a=>exact q.elim
 |q p=>exact q.elim
noncomputable def RJ:R2:=fun x y H Q=>y = .non/\((x = .non/\Q (.bl true) H)\/(∃a,x = .ref a/\Q (.bl false) H))
theorem IE{X:Cx}:OpR X (compareOp .Is) RJ:=by
 intro pins s σ H x y v u Q I rx ry h
 obtain⟨rfl,⟨rfl,q⟩|⟨i,rfl,q⟩⟩:=h
 ·cases rx;cases ry
  exact wpAny_is_plain rfl ⟨.bl true,H,I,rfl,q⟩
 ·cases rx
  cases ry
  exact wpAny_is_plain rfl ⟨.bl false,H,I,rfl,q⟩
noncomputable def Bo:D->D->Mu->DK->Prop:=fun x y Z Q=>match x,y with
 |.v .none,.v .none=>Q (.v (.bool true)) Z
 |.v (.list _),.v .none=>Q (.v (.bool false)) Z
 |_,_=>False
theorem LJ{K:PySem.W.Frag}:jY K RJ Bo:=by
 intro x y ux uy H Z Qd Q ok rx ry h k
 unfold Bo at h
 split at h
 ·cases rx;cases ry;exact⟨rfl,.inl ⟨rfl,k (.v _) _ Z H .refl ok (Rp.bool _) h⟩⟩
 ·cases rx;cases ry;exact⟨rfl,.inr ⟨_,rfl,k (.v _) _ Z H .refl ok (Rp.bool _) h⟩⟩
 ·exact h.elim
theorem Mk{Z:Mu}{Q:DK}:Bo (.v .none) (.v .none) Z Q=Q (.v (.bool true)) Z:=propext Iff.rfl
theorem Ks{Z:Mu}{Q:DK}{xs:List PyData}:Bo (.v (.list xs)) (.v .none) Z Q=Q (.v (.bool false)) Z:=propext Iff.rfl
end L2.DL
namespace L2
open PySem PySem.W PyProof.Rows
end L2
namespace L2.DL
open PySem PySem.Spec PyProof.Rows
end L2.DL
namespace L2
open PySem PySem.W PyProof.Rows
section
variable {X:Cx}
theorem QN{pins:List (Addr×Obj)}{σ:St}{H:Hp}{s:Shared}(I:Inv X pins σ H s):X.K.lookup s.heap.objs.size=none:=by
 cases c:X.K.lookup s.heap.objs.size with
 |none=>rfl
 |some o=>exact absurd (Heap.lt_size (I.kIn _ _ c)) (lt_irrefl _)
theorem FX:kE X (.type "list") (fun xs H Q=>∃p ys,xs=[.ref p]/\(SqL X.K H p ys\/SqT X.K H p ys)/\∀l,H l=none->X.K.lookup l=none->Q (.ref l) (upd H l (.lst ys))):=by
 intro pins s σ H xs us Q I r h
 obtain⟨p,ys,rfl,hq,q⟩:=h
 have hk:=QN I
 obtain⟨u,rfl,rx⟩:=vals1 r
 cases rx
 have go:∀(A:Around) (E:Value->Shared->Prop) (its:List Value),Vals ys its->ys.length<=sizeLine->∀(o:Obj) (n:Nat),(o.cls = .type "list"\/o.cls = .type "tuple")->s.heap.get? p=some o->o.data = .seq its.toArray n->wpAny (model X.prog X.w) A (call (.type "list") [.ref p]) (EP X pins σ Q) E s:=fun A E its rv hz o n hc ho hd=>by
  have hlen:=rv.length
  rcases hc with hc|hc
  ·refine call_list_seq p (.inl rfl) ho hc hd (fun h' c' kp e=>⟨.ref s.heap.objs.size,_,I.laid (t':=s.toks) kp (le_refl _) ?_,rfl,q _ (I.hok.fresh (le_refl _)) hk⟩) (by rw[size_toArray];omega)
   exact⟨hz,its,c',rv,e⟩
  ·refine call_list_seq p (.inr rfl) ho hc hd (fun h' c' kp e=>⟨.ref s.heap.objs.size,_,I.laid (t':=s.toks) kp (le_refl _) ?_,rfl,q _ (I.hok.fresh (le_refl _)) hk⟩) (by rw[size_toArray];omega)
   exact⟨hz,its,c',rv,e⟩
 rcases hq with hq|hq
 ·obtain⟨its,rv,pl,hz⟩:=I.list hq
  obtain⟨o,ho,hc,n,hd⟩:=pl.isList
  exact go _ _ its rv hz o n (.inl hc) ho hd
 ·obtain⟨its,rv,pl,hz⟩:=I.tuple hq
  obtain⟨o,ho,hc,n,hd⟩:=pl
  exact go _ _ its rv hz o n (.inr hc) ho hd
end
end L2
namespace L2.DL
open PySem PySem.Spec PyProof.Rows
noncomputable def CK:List D->Mu->DK->Prop:=fun xs Z Q=>match xs with
 |[.v (.list ys)]=>∀p,Z p=none->Q (.m p) (aD Z p ys)
 |[.v (.tuple ys)]=>∀p,Z p=none->Q (.m p) (aD Z p ys)
 |[.m a]=>∃ys,Z a=some ys/\∀p,Z p=none->Q (.m p) (aD Z p ys)
 |_=>False
theorem Kc{K:PySem.W.Frag}:pf K (fun xs H Q=>∃p ys,xs=[.ref p]/\(SqL K H p ys\/SqT K H p ys)/\∀l,H l=none->K.lookup l=none->Q (.ref l) (upd H l (.lst ys))) CK:=by
 intro xs us H Z Qd Q ok rs h k
 have fin:∀(ys:List PyData) (vs:List V),RpL K Z H ys vs->(∀p,Z p=none->Qd (.m p) (aD Z p ys))->∀l,H l=none->K.lookup l=none->Q (.ref l) (upd H l (.lst vs)):=fun ys vs r q l hl hk=>
  k (.m l) _ (aD Z l ys) _ (iw (o:=.lst vs) (ds:=ys) ok hl hk) (ok.mut r hl hk) ⟨rfl,ys,aE⟩ (q l (ok.free hl))
 unfold CK at h
 split at h
 ·cases rs with
  |cons r1 r2=>
   cases r2
   cases r1 with
   |list hs hn r=>exact⟨_,_,rfl,.inl (SqL.of hs),fin _ _ r h⟩
 ·cases rs with
  |cons r1 r2=>
   cases r2
   cases r1 with
   |tuple hs r=>exact⟨_,_,rfl,.inr hs,fin _ _ r h⟩
 ·cases rs with
  |cons r1 r2=>
   cases r2
   obtain⟨ys,hm,h⟩:=h
   obtain⟨rfl,_⟩:=r1
   obtain⟨vs,hl,r⟩:=ok.lst _ ys hm
   exact⟨_,_,rfl,.inl (SqL.of hl),fin _ _ r h⟩
 ·exact h.elim
theorem MA{X:Cx}{e:Expr}{es:List Expr}{t:DTA}{pos p:Pos}(hg:Gl X "list")(hm:X.mg "list"=none)(ha:DA X (e::es) t)
  (he:starEach (e::es) X.env=(false,eval e X.env)::starEach es X.env:=by rfl) (hpl:(backTo pos (starEach es X.env)).any (·.1)=false:=by rfl):DE X (.Call (.Name "list" p) (e::es) [] pos) (dCB CK t):=
 uC FX Kc hg hm PyProof.Rows.Boot.«list» ha ⋯ ⋯ he hpl
end L2.DL
namespace L2
open PySem PySem.Spec PyProof.Rows
end L2
namespace L2.DL
open PySem PySem.W PyProof.Rows
open PySem PySem.Spec PyProof.Rows
noncomputable def xE(Z:Mu)(a:Addr):Mu:=⟨fun b=>if b=a then none else Z b,Z.b⟩
theorem yn{Z:Mu}{a:Addr}:xE Z a a=none:=if_pos rfl
theorem sH{Z:Mu}{a b:Addr}(h:b≠a):xE Z a b=Z b:=if_neg h
noncomputable def RH(Z:Mu)(Qd:DK):DK:=fun d U=>match d with
 |.v x=>Qd (.v x) U
 |.m a=>Z a=none/\∃es,U a=some es/\Qd (.v (.list es)) (xE U a)
 |_=>False
theorem N0{P:Program}{w:World}{K:PySem.W.Frag}{mg:Str->Option Value}{base:Heap}{CX:CXT}{k:Nat}{f:Addr}{fd:FuncData}{ps:List Str}{sp sp':DSp}(F:br P w K mg base CX k f fd ps (spD K sp))
  (h:∀ds Z Qd,sp' ds Z Qd->sp ds Z (RH Z Qd)):br P w K mg base CX k f fd ps (spD K sp'):=by
 refine F.imp fun vs H Q E h'=>?_
 obtain⟨ds,Z,Qd,ok,r,s,kk⟩:=h'
 refine⟨ds,Z,_,ok,r,h _ _ _ s,fun d u U H' e ok' rd q=>?_⟩
 cases d with
 |v x=>exact kk (.v x) u U H' e ok' rd q
 |m a=>
  obtain⟨n,es,he,q⟩:=q
  obtain⟨rfl,_⟩:=rd
  obtain⟨xs,h1,h2⟩:=ok'.lst a es he
  have sb:dE (xE U a) U:=⟨fun b ds z=>by
   by_cases c:b=a
   ·rw[c,yn] at z;cases z
   ·rw[sH c] at z;exact z,fun _ _ z=>z⟩
  refine kk (.v (.list es)) (.ref a) (xE U a) H' ⟨e.keep,e.tb,fun b ds z=>?_,fun b z g=>?_,e.st,e.bx⟩ (xQ ok' sb) (show Rp K (xE U a) H' (.list es) (.ref a) from .list h1 yn (h2.sub fun b hb=>sb.none hb)) q
  ·have c:b≠a:=fun c=>by rw[c,n] at z;cases z
   rw[sH c];exact e.dom b ds z
  ·exact sb.none (e.fresh b z g)
 |s ns=>exact q.elim
 |o a=>exact q.elim
 |b _=>exact q.elim
 |q p=>exact q.elim
end L2.DL
namespace L2
open PySem PySem.Spec PyProof.Rows
end L2
namespace L2.DL
open PySem PySem.Spec PyProof.Rows
end L2.DL
namespace L2
open PySem PySem.Spec PyProof.Rows
section
variable {X:Cx}
noncomputable def Nl:V->List V->Hp->VK->Prop:=fun x vs H Q=>∃(l:Addr) (xs:List V) (i:Nat) (y:V),x = .ref l/\vs=[.int (i:Nat),y]/\H l=some (.lst xs)/\i<=xs.length/\xs.length<=1000/\Q .non (upd H l (.lst (xs.take i++y::xs.drop i)))
theorem Vals.ins{xs:List V}{us:List Value}{y:V}{u:Value}(h:Vals xs us)(r:RelV y u):∀i:Nat,Vals (xs.take i++y::xs.drop i) (us.take i++u::us.drop i):=by
 induction h with
 |nil=>intro i;simp;exact .cons r .nil
 |cons p t ih=>
  intro i
  cases i with
  |zero=>exact .cons r (.cons p t)
  |succ i=>exact .cons p (ih i)
theorem JL:MtM X "list.insert" Nl:=by
 intro pins s σ H x vs v us Q I rx rv h
 obtain⟨l,xs,i,y,rfl,rfl,hH,hi,hz,q⟩:=h
 cases rx
 obtain⟨u1,u2,rfl,ru1,ru2⟩:=vals2 rv
 obtain⟨t,rfl⟩:=ru1
 obtain⟨z,its,n,r,hl,e⟩:=I.Ja hH
 have hs:(1000:Nat)<sizeLine:=by decide
 have fit:Builtin.List.listFitsIndex (i:Int)=true:=by
  unfold Builtin.List.listFitsIndex
  rw[and_eq_true,decide_eq_true_eq,decide_eq_true_eq]
  have p:(2:Int) ^ 63=9223372036854775808:=by decide
  rw[p]
  omega
 obtain⟨x,hx⟩:∃x:Int,x=(i:Int):=⟨_,rfl⟩
 rw[<- hx] at fit ⊢
 have hn:¬ (!Builtin.List.listFitsIndex x)=true:=by rw[fit];exact Bool.false_ne_true
 have hsz:its.toArray.size<=sizeLine:=by rw[size_toArray];omega
 have M:=AutoSeq1.list_insert_list_int_val_1 l its.toArray n x t u2 hn hsz
 refine call_meets F.slot_list_insert ⟨_,e,rfl⟩ F.entry_list_insert (F.args_list_insert_3 _ _ _) M ⟨e,?_⟩
 refine⟨.non,_,I.Nq (its':=its.take i++u2::its.drop i) hH e ?_ (Vals.ins r ru2 i) ?_,rfl,q⟩
 ·dsimp only
  rw[if_neg ∅,hx,Int.toNat_natCast,size_toArray,Nat.min_eq_left ∅]
  apply Array.ext'
  simp
  exact List.take_of_length_le (by simp)
 ·simp
  omega
end
end L2
namespace L2.DL
open PySem PySem.Spec PyProof.Rows
section
variable {X:Cx}{o i e:Expr}{to ti te:DTE}{apos cpos:Pos}
theorem RpL.ins{K:PySem.W.Frag}{Z:Mu}{H:Hp}{ds:List PyData}{us:List V}{d:PyData}{u:V}(q:Rp K Z H d u):∀(i:Nat),RpL K Z H ds us->RpL K Z H (ds.take i++d::ds.drop i) (us.take i++u::us.drop i)
 |_,.nil=>by simp;exact .cons q .nil
 |0,.cons p t=>.cons q (.cons p t)
 |i+1,.cons p t=>.cons p (RpL.ins q i t)
noncomputable def Jm(to ti te:DTE):DTE:=fun ρ Z Q=>to ρ Z fun x ad=>match x with
 |.m l=>ti ρ ad fun z am=>te ρ am fun y bi=>∃(j:Nat) (d:PyData) (xs:List PyData),z = .v (.int (j:Nat))/\y = .v d/\bi l=some xs/\j<=xs.length/\xs.length<=1000/\Q (.v .none) (aD bi l (xs.take j++d::xs.drop j))
 |_=>False
theorem Bk(ho:DE X o to)(hi:DE X i ti)(ha:DE X e te)(hbase:attributeBase o "insert" X.env (eval o X.env)=eval o X.env:=by rfl)
  (hfew:((backTo cpos (starEach [i,e] X.env)).all (fun x=>!x.1)&&(backToKw cpos (keywordEach [] X.env)).all (fun x=>x.1.isSome)
   && decide ([i,e].length+([]:List Keyword).length+(if ([]:List Keyword).isEmpty then 0 else 1)<30))=true:=by rfl)
  (hline:(apos.endLine==cpos.line)=true:=by rfl) (hs:starEach [i,e] X.env=(false,eval i X.env)::starEach [e] X.env:=by rfl) (hs2:starEach [e] X.env=(false,eval e X.env)::starEach [] X.env:=by rfl) (hplain:(backTo cpos (starEach [e] X.env)).any (·.1)=false:=by rfl) :
  DE X (.Call (.Attribute o "insert" apos) [i,e] [] cpos) (Jm to ti te):=by
 obtain⟨t1,p1,l1⟩:=ho
 obtain⟨t3,p3,l3⟩:=hi
 obtain⟨t2,p2,l2⟩:=ha
 refine⟨_,Im plainAttrs_list PySem.F.slot_list_insert PySem.F.type_list_insert JL p1 (ko p3 (ko p2 vB hs2) hs) hbase hfew hline hs hplain,fun σ H ρ Z Qd Q S h k=>?_⟩
 refine l1 σ H ρ Z _ _ S h fun x ux ad H1 e1 S1 rx h1=>?_
 cases x with
 |m l=>
  obtain⟨rfl,ds,hm⟩:=id rx
  obtain⟨us,hl,rl⟩:=S1.mu l ds hm
  refine⟨.inl ⟨rfl,us,SqL.of hl⟩,?_⟩
  refine l3 σ H1 ρ ad _ _ S1 h1 fun z uz am H2 e2 S2 rz h2=>?_
  refine l2 σ H2 ρ am _ _ S2 h2 fun y uy bi H3 e3 S3 ry h3=>?_
  obtain⟨j,d,xs,rfl,rfl,hx,hj,hz,q⟩:=h3
  obtain⟨us3,hl3,rl3⟩:=S3.mu l xs hx
  cases rz
  refine⟨l,us3,j,uy,rfl,rfl,hl3,by rw[<- rl3.length];exact hj,by rw[<- rl3.length];exact hz,?_⟩
  have ex:Ext X.K bi H3 (aD bi l (xs.take j++d::xs.drop j)) (upd H3 l (.lst (us3.take j++uy::us3.drop j))):=iF hx
  exact k (.v .none) .non _ _ (e1.trans (e2.trans (e3.trans ex))) ⟨S3.mu.set hx (rl3.ins ry j),S3.rho.ext S3.mu ex⟩ Rp.none q
 |v d=>exact h1.elim
 |s _=>exact h1.elim
 |o _=>exact h1.elim
 |b _=>exact h1.elim
 |q _=>exact h1.elim
theorem N8{ρ:Rho}{Z:Mu}{Q:DK}:Jm to ti te ρ Z Q=to ρ Z (fun x ad=>match x with
 |.m l=>ti ρ ad fun z am=>te ρ am fun y bi=>∃(j:Nat) (d:PyData) (xs:List PyData),z = .v (.int (j:Nat))/\y = .v d/\bi l=some xs/\j<=xs.length/\xs.length<=1000/\Q (.v .none) (aD bi l (xs.take j++d::xs.drop j))
 |_=>False):=propext Iff.rfl
end
end L2.DL
namespace L2
open PySem PySem.Spec PyProof.Rows
section
variable {X:Cx}
noncomputable def Pb(x y:Str):Int:=match Builtin.Str.lastOccurrence x y 0 x.length with|some i=>(i:Nat)|none=>-1
end
end L2
namespace L2
open PySem PySem.Spec PyProof.Rows
end L2
namespace L2
open PySem PySem.Spec PyProof.Rows
end L2
namespace L2.DL
open PySem PySem.Spec PyProof.Rows
section
variable {X:Cx}{a b e e1 e2 o:Expr}{es:List Expr}{ta tb te to:DTE}{t:DTA}{pos p p2 apos cpos:Pos}{lo hi:Option Expr}
noncomputable def Nn(x y:Str):Bool:=decide (0+y.length<=x.length)&&Builtin.Str.subAt x y 0
noncomputable def Rq(x y:Str):Bool:=decide (0+y.length<=x.length)&&Builtin.Str.subAt x y (x.length-y.length)
end
section
variable {X:Cx}{a b e e1 e2 o tg:Expr}{es:List Expr}{ta tb te to:DTE}{t:DTA}{pos p p2 apos cpos:Pos}{lo hi:Option Expr}
noncomputable abbrev DTJ:=Str->Rho->Mu->(Str->Mu->Prop)->Prop
end
section
variable {X:Cx}{e o:Expr}{te to:DTE}{apos cpos:Pos}
noncomputable def NL(x y:Str):PyData:=.bool (Nn x y)
noncomputable def Q4(x y:Str):PyData:=.bool (Rq x y)
noncomputable def P1(x y:Str):PyData:=.int (Pb x y)
end
noncomputable def Ite(K:PySem.W.Frag)(l:Addr):It:=
 ⟨fun i H=>∃xs x,SqL K H l xs/\xs[i]? = some x,
  fun i H v H'=>∃p x,v = .ref p/\H p=none/\H'=upd H p (.tup [.int i,x])/\(∀xs,SqL K H l xs->xs[i]? = some x),
  fun i H=>∃xs,SqL K H l xs/\xs.length<=i⟩
noncomputable def OF(e it l:Addr)(i:Nat)(h:Heap):Prop:=(∃old,IsEnum h e it i old)/\h.IsListIter it l i
theorem Jo{P:Program}{w:World}{K:PySem.W.Frag}{es:List Expr}{x1:Nat}{pos:Pos}(e it l:Addr)(hei:e≠it) :
  Turn true P w K (.Tuple es x1 pos) (Ite K l) [e,it] e (OF e it l) where
 mem:=by simp
 obj:=fun i h st b hb=>by
  obtain⟨⟨old,a1⟩,⟨o4,a4,c4,d4⟩⟩:=st
  simp only[mem_cons,not_mem_nil,or_false] at hb
  rcases hb with rfl|rfl
  ·exact⟨_,a1,fun v z=>by cases z⟩
  ·exact⟨_,a4,fun v z=>by rw[d4] at z;cases z⟩
 keep:=fun i h h' st k=>by
  obtain⟨⟨old,a1⟩,a4⟩:=st
  exact⟨⟨old,k e (by simp) _ a1⟩,a4.at fun o e=>k it (by simp) o e⟩
 item:=by
  intro X hP hw hK hc i pins s σ H E I hf st hg
  subst hP hw hK
  obtain⟨xs,x,hq1,hx⟩:=hg
  obtain⟨its1,rv1,p1,_⟩:=I.list hq1
  obtain⟨u,hu,ru⟩:=rv1.get hx
  obtain⟨⟨old,a1⟩,a4⟩:=id st
  refine wpAny_pyNext_enum_item a1 a4 p1.isList (x:=u) (by simpa using hu) hei fun h' b1 b2 b3 b4 b5=>?_
  refine⟨.ref s.heap.objs.size,rfl,wpAny_letOwnedTupleGo_enum (s:={s with heap:=h',toks:=s.toks+1}) b1 fun h2 c1 sb=>?_⟩
  have hne:s.heap.objs.size≠e:=Nat.ne_of_gt (Heap.lt_size a1)
  have hT:h2.get? s.heap.objs.size=some {cls:=.type "tuple",data:=.seq #[.int i s.toks,u]}:=sb.extBut _ _ hne b3
  refine⟨.ref s.heap.objs.size,upd H s.heap.objs.size (.tup [.int i,x]),?_,rfl,⟨s.heap.objs.size,x,rfl,I.hok.fresh (le_refl _),rfl,fun zs hz=>by rw[I.uf hz hq1];exact hx⟩,?_,fun b hb=>?_⟩
  ·refine Inv.xZ (s:=s) (h':=h2) (t':=s.toks+1) (ch:=[e,it]) I hf (fun b o hb e=>?_) (le_refl _) ⟨by show 2<=sizeLine;decide,[.int i s.toks,u],.cons ⟨_,rfl⟩ (.cons ru .nil),_,hT,rfl,0,rfl⟩
   simp only[mem_cons,not_mem_nil,or_false,not_or] at hb
   exact sb.extBut _ _ hb.1 (b5 b o hb.1 hb.2 e)
  ·exact⟨⟨_,by simpa using c1⟩,b2.at fun o e=>sb.extBut _ o (Ne.symm hei) e⟩
  ·have hb':b<s.heap.objs.size:=by
    simp only[mem_cons,not_mem_nil,or_false] at hb
    obtain⟨o4,e4,_⟩:=a4
    rcases hb with rfl|rfl
    ·exact Heap.lt_size a1
    ·exact Heap.lt_size e4
   rw[aS (ne_of_lt hb')]
   exact (hf b hb).1
 done:=by
  intro X hP hw hK hc i pins s σ H E I hf st hg
  subst hP hw hK
  obtain⟨xs,hq1,hx⟩:=hg
  obtain⟨its1,rv1,p1,_⟩:=I.list hq1
  obtain⟨⟨old,a1⟩,a4⟩:=id st
  have hl1:=rv1.length
  refine wpAny_pyNext_enum_end (I.ok.hd (hc rfl)) a1 a4 p1.isList (by simp;omega) fun h' b7=>⟨rfl,?_⟩
  refine Inv.Hn (t':=s.toks) (ch:=[e,it]) I hf fun b o hb e=>?_
  simp only[mem_cons,not_mem_nil,or_false,not_or] at hb
  exact b7 b o hb.2 e
 self:=fun _ _ _ _ _ st h=>by
  obtain⟨⟨old,a1⟩,_⟩:=st
  exact wpAny_pyIter_enum a1 h
section
variable {X:Cx}{es:List Expr}{x1:Nat}{tpos:Pos}
noncomputable def Q0(K:PySem.W.Frag)(ta:TA):TI:=fun σ H R=>ta σ H fun vs H1=>∃l,vs=[.ref l]/\(∃xs,SqL K H1 l xs)/\R (Ite K l) H1
theorem Nh{a:Expr}{ta:TA}{p pos:Pos}(hc:X.calm=true)(hg:Gl X "enumerate")(hm:X.mg "enumerate"=none)(ha:PA X [a] ta)(hs:starEach [a] X.env=[(false,eval a X.env)]:=by rfl) :
  PI X (.Tuple es x1 tpos) (.Call (.Name "enumerate" p) [a] [] pos) (Q0 X.K ta):=by
 intro pins s σ H R I h
 refine Call_ (pA I hg hm PyProof.Rows.Boot.«enumerate» (PyProof.Rows.callWith_type1 (thn (ha pos pins s σ H _ I h) fun us s1 hq0=>?_) (by rw[hs];rfl) (by rfl)))
 obtain⟨vs,H1,I1,r1,q1⟩:=hq0
 obtain⟨l1,e,⟨xs,hq1⟩,q⟩:=q1
 subst e
 cases r1 with
 |cons r rr=>
  cases rr
  cases r
  obtain⟨its1,rv1,p1,_⟩:=I1.list hq1
  refine call_enumerate_list p1.isList fun h' hz hi1 hsz hk=>?_
  refine wpAny_pyIter_enum (s:={s1 with heap:=h'}) hz ?_
  refine⟨s1.heap.objs.size+1,[s1.heap.objs.size+1,s1.heap.objs.size],_,_,H1,rfl,I1.kept (t':=s1.toks) hk,(Jo _ _ l1 (Nat.succ_ne_self _)).calm hc,⟨⟨_,hz⟩,hi1⟩,fun b hb=>?_,q⟩
  have hb':s1.heap.objs.size<=b:=by
   simp only[mem_cons,not_mem_nil,or_false] at hb
   rcases hb with rfl|rfl
   ·exact le_add_right _ 1
   ·exact le_refl _
  exact I1.G3 hb' (I1.hok.fresh hb')
noncomputable def jM:Nat->List PyData->List PyData
 |_,[]=>[]
 |i,x::xs=>.tuple [.int i,x]::jM (i+1) xs
theorem vC:∀{xs:List PyData} {j i:Nat} {x:PyData},xs[i]? = some x->(jM j xs)[i]? = some (.tuple [.int ((j+i:Nat):Int),x])
 |_::_,j,0,x,h=>by simp at h;subst h;rfl
 |_::xs,j,i+1,x,h=>by
  have:=vC (xs:=xs) (j:=j+1) (i:=i) (x:=x) (by simpa using h)
  rw[show j+1+i=j+(i+1) by omega] at this
  exact this
 |[],j,i,x,h=>by simp at h
theorem vH:∀(j:Nat) (xs:List PyData),(jM j xs).length=xs.length
 |_,[]=>rfl
 |j,_::xs=>by show (jM (j+1) xs).length+1=xs.length+1;rw[vH]
noncomputable def yD(t:DTA):DTI:=fun ρ Z Q=>t ρ Z fun ds ad=>match ds with
 |[.v (.list xs)]=>Q (jM 0 xs) ad
 |_=>False
theorem Dj{a:Expr}{t:DTA}{p pos:Pos}(hg:Gl X "enumerate")(hm:X.mg "enumerate"=none)(ha:DA X [a] t)(hs:starEach [a] X.env=[(false,eval a X.env)]:=by rfl)(hc:X.calm=true:=by rfl) :
  DI X (.Tuple es x1 tpos) (.Call (.Name "enumerate" p) [a] [] pos) (yD t):=by
 obtain⟨t1,p1,l1⟩:=ha
 refine⟨_,Nh hc hg hm p1 hs,fun σ H ρ Z Qd R S h k=>?_⟩
 refine l1 σ H ρ Z _ _ S h fun ds us ad H1 e1 S1 rs len h1=>?_
 split at h1
 ·rename_i xs
  cases rs with
  |cons r1 r2=>
   cases r2
   cases r1 with
   |@list a us _ ha hn ra=>
    refine⟨a,rfl,⟨us,SqL.of ha⟩,k (jM 0 xs) ad H1 _ e1 S1 (fun am H2 e2 ok2 i=>⟨fun hi=>?_,fun hi=>?_⟩) h1⟩
    ·rw[vH] at hi
     have ha2:=e2.keep _ _ ha hn trivial
     have i1:i<us.length:=by rw[<- ra.length];omega
     refine⟨⟨us,us[i],SqL.of ha2,by simp[i1]⟩,?_⟩
     rintro v H' ⟨p,x,rfl,hp,rfl,hx⟩
     obtain⟨u',h1',h2'⟩:=ra.get (i:=i) (d:=xs[i]'∅) (by simp)
     have z1:=hx us (SqL.of ha2)
     rw[h1'] at z1
     cases z1
     have eg:=vC (xs:=xs) (j:=0) (i:=i) (x:=xs[i]'∅) (by simp)
     rw[Nat.zero_add] at eg
     refine⟨.tuple [.int i,xs[i]'∅],eg,xA hp,?_⟩
     exact jZ ok2 (.cons (Rp.int _) (.cons (h2'.ext S1.mu e2) .nil)) hp
    ·rw[vH] at hi
     have l1:=ra.length
     exact⟨us,SqL.of (e2.keep _ _ ha hn trivial),∅⟩
 ·exact h1.elim
theorem J3{t:DTA}{ρ:Rho}{Z:Mu}{Q:List PyData->Mu->Prop}:yD t ρ Z Q=t ρ Z fun ds ad=>match ds with|[.v (.list xs)]=>Q (jM 0 xs) ad|_=>False:=propext Iff.rfl
end
open PySem PySem.Spec PyProof.Rows NM
theorem nO{n m:Nat}{i j:Int}(h:Sz n i)(g:Sz m j)(l:n+m<=100000):IntMulOk i j:=by
 have b1:∀{k:Nat} {z:Int},Sz k z->Builtin.Int.intBits z<=k:=fun {k z} hz=>by
  unfold Builtin.Int.intBits
  split
  ·exact zero_le _
  ·rename_i q
   have hz':z.natAbs≠0:=by simp at q;omega
   have:=(Nat.log2_lt hz').mpr hz.lt
   omega
 have e1:=b1 h
 have e2:=b1 g
 unfold IntMulOk
 intro z
 simp only[and_eq_true] at z
 have z3:=z.2
 unfold Builtin.Int.intTooBig at z3
 simp only[decide_eq_true_eq] at z3
 have:(100000:Int)<=bitsLine:=by decide
 omega
theorem zm{n:Nat}{i j:Int}(h0:j≠0)(h:Sz n j)(l:n<=8900):vO i j:=by
 refine⟨h0,PyProof.noPylong_of_log2 ?_⟩
 have hz':j.natAbs≠0:=by omega
 have:=(Nat.log2_lt hz').mpr h.lt
 omega
theorem divC{i j:Int}(h0:j≠0)(h1:j.natAbs<1073741824):vO i j:=⟨h0,PyProof.noPylong_small h1⟩
theorem mulL{i j:Int}(h:i.natAbs<2 ^ 64):IntMulOk i j:=ME.ok (.inl ∅)
theorem mulR{i j:Int}(h:j.natAbs<2 ^ 64):IntMulOk i j:=ME.ok (.inr ∅)
noncomputable def dN(x:N3):PyData:=.tuple [.int x.a,.int x.b,.int x.c]
noncomputable def isWhole(d:PyData):Bool:=isT "int" d&&!isT "bool" d
noncomputable def isNum:PyData->Bool
 |.tuple [.int a,.int b,.int c]=>decide (1<=c)&&(g3 a b c==1)
 |_=>false
noncomputable def jv:DSp:=fun ds Z Q=>∃d,ds=[.v d]/\Q (.v (.bool (isWhole d))) Z
noncomputable def n8:DSp:=fun ds Z Q=>∃a b:Int,ds=[.v (.int a),.v (.int b)]/\Q (.v (.int (Int.gcd a b:Nat))) Z
noncomputable def xJ:DSp:=fun ds Z Q=>∃a b c:Int,ds=[.v (.int a),.v (.int b),.v (.int c)]/\Q (.v (.int (g3 a b c:Nat))) Z
noncomputable def Few:PyData->Prop
 |.tuple xs=>xs.length<=1000
 |_=>True
noncomputable def kS:DSp:=fun ds Z Q=>∃d,ds=[.v d]/\Few d/\Q (.v (.bool (isNum d))) Z
noncomputable def eW:DSp:=fun ds Z Q=>∃a b c:Int,ds=[.v (.int a),.v (.int b),.v (.int c)]/\c≠0/\Sz 8800 c/\Q (.v (dN (low a b c))) Z
noncomputable def p5:DSp:=fun ds Z Q=>∃x:N3,ds=[.v (dN x)]/\Q (.v (dN (minus x))) Z
noncomputable def sp2(f:N3->N3->N3):DSp:=fun ds Z Q=>∃x y:N3,ds=[.v (dN x),.v (dN y)]/\Ok x/\Ok y/\Bd 4300 x/\Bd 4300 y/\Q (.v (dN (f x y))) Z
noncomputable abbrev iZ:DSp:=sp2 plus
noncomputable abbrev fE:DSp:=sp2 less
noncomputable def uq:DSp:=fun ds Z Q=>∃d a b:Int,ds=[.v (.int d),.v (.int a),.v (.int b)]/\Sz 5 d/\Sz 9900 a/\Sz 9900 b/\Q (.v (.int (sg d a b))) Z
noncomputable def hJ:DSp:=fun ds Z Q=>∃(d:Int) (x:N3),ds=[.v (.int d),.v (dN x)]/\aJ d/\Bd 8900 x/\Q (.v (.int (sg d x.a x.b))) Z
noncomputable def dif(d:Int)(x y:N3):Int:=sg d (x.a*y.c-y.a*x.c) (x.b*y.c-y.b*x.c)
noncomputable def w6:DSp:=fun ds Z Q=>∃(d:Int) (x y:N3),ds=[.v (.int d),.v (dN x),.v (dN y)]/\aJ d/\Bd 4400 x/\Bd 4400 y/\Q (.v (.bool (decide (dif d x y=1)))) Z
noncomputable def w9:DSp:=fun ds Z Q=>∃(d:Int) (x y:N3),ds=[.v (.int d),.v (dN x),.v (dN y)]/\aJ d/\Ok x/\Ok y/\Bd 4300 x/\Bd 4300 y/\Q (.v (.bool (decide (dif d y x=1)))) Z
noncomputable def Bag(Z:Mu)(a:Addr):Prop:=∃g m:Int,Z a=some [.int g,.int m]/\0<=g/\0<=m/\m<2147483648
noncomputable def Step(a:Addr)(Z U:Mu):Prop:=Bag U a/\∀b,b≠a->U b=Z b
noncomputable def Il:DSp:=fun ds Z Q=>∃(ns:List Int) (k:Int),ds=[.s ns,.v (.int k)]/\0<=k/\k<=1000/\∀p U,Z p=none->Step p Z U->Q (.m p) U
noncomputable def cL:DSp:=fun ds Z Q=>∃(a:Addr) (n:Int),ds=[.m a,.v (.int n)]/\1<=n/\n<=1000000000/\Bag Z a/\∀r U,0<=r->r<n->Step a Z U->Q (.v (.int r)) U
noncomputable def w5:DSp:=fun ds Z Q=>∃a:Addr,ds=[.m a]/\Bag Z a/\∀d U,aJ d->Step a Z U->Q (.v (.int d)) U
theorem Step.trans{a:Addr}{Z ad am:Mu}(h:Step a Z ad)(g:Step a ad am):Step a Z am:=⟨g.1,fun b n=>(g.2 b n).trans (h.2 b n)⟩
theorem Step.set{a:Addr}{Z:Mu}{g m:Int}(h1:0<=g)(h2:0<=m)(h3:m<2147483648):Step a Z (aD Z a [.int g,.int m]):=⟨⟨g,m,aE,h1,h2,h3⟩,fun b n=>aV n⟩
def mkW(s:String):Lean.MacroM (Lean.TSyntax `tactic):=do let a<-(s.splitOn " ").toArray.mapM fun t=>if t.front=='↓' then `(Lean.Parser.Tactic.simpLemma|↓$(Lean.mkIdent (t.drop 1).toName):term) else `(Lean.Parser.Tactic.simpLemma|$(Lean.mkIdent t.toName):term);`(tactic|simp only[$a,*])
local macro_rules|`(tactic| walk_at "rd")=>mkW "↓GZ ↓FT ↓FD ↓Gu ↓GB ↓FW ↓GF ↓GQ ↓FL ↓GV ↓B9 ↓q_c ↓QY ↓q_B ↓Pc ↓Mr ↓Lw ↓Ka ↓N4 ↓Ga ↓KI ↓G8 ↓QB ↓KA ↓Gz ↓Kp ↓Lc ↓Hk ↓LH ↓Kb ↓Mj ↓Ip ↓Ki ↓FJ ↓Gk ↓GA ↓Dc ↓Cn ↓Cq ↓FP ↓A7 ↓xy ↓Lm ↓KN ↓MC ↓QM ↓FK ↓GS ↓Gd ↓Ha ↓LM ↓OX ↓G6 ↓KL ↓La ↓BI ↓Gf ↓C1 ↓FY ↓GX ↓N7 ↓Lv ↓Hl ↓LA ↓Ls ↓GY ↓Ob ↓B0 ↓Mm ↓K1 ↓Lf ↓GG ↓yL ↓CQ ↓yE ↓x9 ↓BU ↓yx ↓yb ↓K7 rQ ↓kU ↓mR FZ Gv Mh Mi LL Option.bind_none bind_some join_some List.getElem?_cons_zero List.getElem?_cons_succ aL dN xU A1 AU Fg IB List.map List.append List.replicate length_cons length_nil Nat.reduceAdd Nat.reduceSub List.nil_append cons_append List.set_cons_zero List.set_cons_succ map_some ↓reduceIte Bool.not_true Bool.not_false false_eq_true Bool.true_eq_false xor_false false_xor"
noncomputable def kC:DTS:=
 (bb (kA (wX "int" (ah 0)) (KR (wX "bool" (ah 0)))))
noncomputable def gM:DTS:=
 (aK (qA (dB (dOp (cM true) (ah 1) (dC (.int 0)))) (Cu 0 1 (ag (ah 1) (ag (zf (ah 0) (ah 1)) aw))))
 (bb (dCB tW (ag (ah 0) aw))))
noncomputable def gG:DTS:=
 (bb (az n8 (ag (az n8 (ag (ah 2) (ag (ah 0) aw))) (ag (ah 1) aw))))
noncomputable def j4:DTS:=
 (aK (Cu 0 1 (ag (dCB tW (ag (ah 0) aw)) (ag (dCB tW (ag (ah 1) aw)) aw)))
 (aK (qA (dB (dOp rGt (ah 1) (dC (.int 0)))) (Cu 0 1 (ag (ah 1) (ag (zf (ah 0) (ah 1)) aw))))
 (bb (ah 0))))
section
theorem HB(x:Int){y:Int}(h:y≠0):(x.fmod y).natAbs<y.natAbs:=by
 have e:=Int.mul_fdiv_add_fmod x y
 have:=Int.fmod_def x y
 rcases Int.lt_or_gt_of_ne h with h|h
 ·have k:=Int.neg_fmod_neg (a:=x) (b:=y)
  have h1:=Int.fmod_nonneg_of_pos (-x) (show 0 < -y by omega)
  have h2:=Int.fmod_lt_of_pos (-x) (show 0 < -y by omega)
  omega
 ·have h1:=Int.fmod_nonneg_of_pos x h
  have h2:=Int.fmod_lt_of_pos x h
  omega
theorem EL(x y:Int):Int.gcd y (x.fmod y)=Int.gcd x y:=by
 have e:=Int.mul_fdiv_add_fmod x y
 have e':x.fmod y=x+y*(-(x.fdiv y)):=by rw[Int.mul_neg];omega
 rw[e',Int.gcd_add_mul_left_right,Int.gcd_comm]
theorem vJ{Z Qd ds}(h:jv ds Z Qd):kC ‹Qd› (aL ["thing"] ds) Z:=by
 obtain⟨d,rfl,q⟩:=h
 unfold kC
 walk_at "rd"
 unfold isWhole at q
 cases hb:isT "int" d<;>simp_all
theorem ub{Z Qd ds}(h:n8 ds Z Qd):gM ‹Qd› (aL ["a","b"] ds) Z:=by
 obtain⟨a,b,rfl,q⟩:=h
 unfold gM
 walk_at "rd"
 refine⟨fun m ρ U=>∃x y:Int,ρ=[some (.v (.int x)),some (.v (.int y))]/\m=y.natAbs/\Int.gcd x y=Int.gcd a b/\U=Z,⟨_,a,b,rfl,rfl,rfl,rfl⟩,?_⟩
 rintro m ρ U ⟨x,y,rfl,rfl,hg,rfl⟩
 walk_at "rd"
 by_cases hy:y=0
 ·subst hy
  have e:Int.gcd x 0=x.natAbs:=Int.gcd_zero_right x
  rw[<- hg,e] at q
  simpa using q
 ·have z:(true ^^ decide (y=0))=true:=by simp[hy]
  rw[if_pos z]
  exact⟨hy,_,HB x hy,y,x.fmod y,rfl,rfl,(EL x y).trans hg,trivial⟩
theorem xS{Z Qd ds}(h:n8 ds Z Qd):j4 ‹Qd› (aL ["_law_one","_law_other"] ds) Z:=by
 obtain⟨a,b,rfl,q⟩:=h
 unfold j4
 walk_at "rd"
 refine⟨fun m ρ U=>∃x y:Int,ρ=[some (.v (.int x)),some (.v (.int y))]/\m=y.natAbs/\0<=x/\0<=y/\Int.gcd x y=Int.gcd a b/\U=Z,⟨_,_,_,rfl,rfl,∅,∅,by simp[Int.gcd],rfl⟩,?_⟩
 rintro m ρ U ⟨x,y,rfl,rfl,hx,hy,hg,rfl⟩
 walk_at "rd"
 by_cases h0:0<y
 ·rw[if_pos (by simpa using h0)]
  have hy':y≠0:=by omega
  exact⟨hy',_,HB x hy',y,x.fmod y,rfl,rfl,∅,Int.fmod_nonneg_of_pos x h0,(EL x y).trans hg,trivial⟩
 ·rw[if_neg (by simpa using h0)]
  have e:y=0:=by omega
  subst e
  rw[Int.gcd_zero_right] at hg
  have:x=((Int.gcd a b:Nat):Int):=by omega
  rw[this]
  exact q
theorem sR{Z Qd ds}(h:xJ ds Z Qd):gG ‹Qd› (aL ["a","b","c"] ds) Z:=by
 obtain⟨a,b,c,rfl,q⟩:=h
 unfold gG
 walk_at "rd"
 rw[<- MY] at q
 exact⟨c,a,rfl,_,b,rfl,q⟩
end
noncomputable def uE:DTS:=
 (aK (cF (dB (dOp (cM false) (ah 2) (dC (.int 0)))) CH bA)
 (aK (bc (az xJ (ag (ah 0) (ag (ah 1) (ag (ah 2) aw)))) (ao 3))
 (aK (cF (dB (dOp rLt (ah 2) (dC (.int 0)))) (bc (qL (ah 3)) (ao 3)) bA)
 (bb (bT (ag (wQ (ah 0) (ah 3)) (ag (wQ (ah 1) (ah 3)) (ag (wQ (ah 2) (ah 3)) aw))))))))
noncomputable def oB:DTS:=
 (aK (bc (d3 (az n8 (ag (az n8 (ag (ah 0) (ag (ah 1) aw))) (ag (ah 2) aw))) (dOp aM (wB (ag (dC (.int 1)) (ag (qL (dC (.int 1))) aw))) (dCB tp (ag (dOp rLt (ah 2) (dC (.int 0))) aw)))) (ao 3))
 (bb (bT (ag (wQ (ah 0) (ah 3)) (ag (wQ (ah 1) (ah 3)) (ag (wQ (ah 2) (ah 3)) aw))))))
noncomputable def kM:DTS:=
 (bb (bT (ag (oq (dC (.int 0)) (dOp aM (ah 0) (dC (.int 0)))) (ag (oq (dC (.int 0)) (dOp aM (ah 0) (dC (.int 1)))) (ag (dOp aM (ah 0) (dC (.int 2))) aw)))))
noncomputable def Cp:DTS:=
 (bb (az eW (ag (de (d3 (dOp aM (ah 0) (dC (.int 0))) (dOp aM (ah 1) (dC (.int 2)))) (d3 (dOp aM (ah 1) (dC (.int 0))) (dOp aM (ah 0) (dC (.int 2))))) (ag (de (d3 (dOp aM (ah 0) (dC (.int 1))) (dOp aM (ah 1) (dC (.int 2)))) (d3 (dOp aM (ah 1) (dC (.int 1))) (dOp aM (ah 0) (dC (.int 2))))) (ag (d3 (dOp aM (ah 0) (dC (.int 2))) (dOp aM (ah 1) (dC (.int 2)))) aw)))))
noncomputable def sF:DTS:=
 (bb (az eW (ag (de (d3 (dOp aM (ah 0) (dC (.int 0))) (dOp aM (ah 1) (dC (.int 2)))) (d3 (dOp aM (ah 1) (dC (.int 0))) (dOp aM (ah 0) (dC (.int 2))))) (ag (de (d3 (dOp aM (ah 0) (dC (.int 1))) (dOp aM (ah 1) (dC (.int 2)))) (d3 (dOp aM (ah 1) (dC (.int 1))) (dOp aM (ah 0) (dC (.int 2))))) (ag (d3 (dOp aM (ah 0) (dC (.int 2))) (dOp aM (ah 1) (dC (.int 2)))) aw)))))
noncomputable def Bv:DTS:=
 (bb (az eW (ag (oq (d3 (dOp aM (ah 0) (dC (.int 0))) (dOp aM (ah 1) (dC (.int 2)))) (d3 (dOp aM (ah 1) (dC (.int 0))) (dOp aM (ah 0) (dC (.int 2))))) (ag (oq (d3 (dOp aM (ah 0) (dC (.int 1))) (dOp aM (ah 1) (dC (.int 2)))) (d3 (dOp aM (ah 1) (dC (.int 1))) (dOp aM (ah 0) (dC (.int 2))))) (ag (d3 (dOp aM (ah 0) (dC (.int 2))) (dOp aM (ah 1) (dC (.int 2)))) aw)))))
section
variable {Z:Mu}{Qd:DK}{ds:List D}
theorem R9(i j:Int):PyData.eqv (.int i) (.int j)=decide (i=j):=by simp[PyData.eqv];rfl
theorem gdv{a b c:Int}(h:Sz 8800 c)(hc:c≠0):Sz 8800 ((g3 a b c:Nat):Int):=by
 have h1:=(J9 a b c).2.2
 have h2:=Int.natAbs_dvd_natAbs.mpr h1
 exact h.le (Nat.le_of_dvd ∅ h2)
theorem Ji(h:eW ds Z Qd):uE ‹Qd› (aL ["a","b","c","divisor"] ds) Z:=by
 obtain⟨a,b,c,rfl,hc,hz,q⟩:=h
 unfold uE
 walk_at "rd"
 rw[decide_eq_false hc]
 simp only[xor_false,false_eq_true,↓reduceIte]
 refine⟨a,b,c,rfl,?_⟩
 walk_at "rd"
 have hp:=Co (a:=a) (b:=b) hc
 have hg:=gdv (a:=a) (b:=b) hz hc
 unfold low NM.dv dN at q
 simp only at q
 by_cases hn:c<0
 ·rw[if_pos (by simpa using hn)]
  rw[if_pos hn] at q
  have o:∀i:Int,vO i (-((g3 a b c:Nat):Int)):=fun i=>zm ∅ hg.neg ⋯
  exact⟨o _,o _,o _,q⟩
 ·rw[if_neg (by simpa using hn)]
  rw[if_neg hn] at q
  have o:∀i:Int,vO i ((g3 a b c:Nat):Int):=fun i=>zm ∅ hg ⋯
  exact⟨o _,o _,o _,q⟩
theorem DO(h:eW ds Z Qd):oB ‹Qd› (aL ["_law_a","_law_b","_law_c","_law_common"] ds) Z:=by
 obtain⟨a,b,c,rfl,hc,hz,q⟩:=h
 unfold oB
 walk_at "rd"
 refine⟨a,b,rfl,_,c,rfl,?_⟩
 walk_at "rd"
 have hp:=Co (a:=a) (b:=b) hc
 have hg:=gdv (a:=a) (b:=b) hz hc
 unfold low NM.dv dN at q
 simp only at q
 by_cases hn:c<0
 ·simp only[hn,decide_true,↓reduceIte,AU]
  rw[if_pos hn] at q
  have e:((Int.gcd (Int.gcd a b:Nat) c:Nat):Int) * -1 = -((g3 a b c:Nat):Int):=by unfold g3;omega
  walk_at "rd"
  rw[e]
  have o:∀i:Int,vO i (-((g3 a b c:Nat):Int)):=fun i=>zm ∅ hg.neg ⋯
  exact⟨mulR ⋯,o _,o _,o _,q⟩
 ·simp only[hn,decide_false,false_eq_true,↓reduceIte,A1]
  rw[if_neg hn] at q
  have e:((Int.gcd (Int.gcd a b:Nat) c:Nat):Int)*1=((g3 a b c:Nat):Int):=by unfold g3;omega
  walk_at "rd"
  rw[e]
  have o:∀i:Int,vO i ((g3 a b c:Nat):Int):=fun i=>zm ∅ hg ⋯
  exact⟨mulR ⋯,o _,o _,o _,q⟩
theorem Ao(h:p5 ds Z Qd):kM ‹Qd› (aL ["_law_x"] ds) Z:=by
 obtain⟨x,rfl,q⟩:=h
 unfold kM
 walk_at "rd"
 simp only[Int.zero_sub]
 exact q
theorem HU(h:iZ ds Z Qd):Cp ‹Qd› (aL ["x","y"] ds) Z:=by
 obtain⟨x,y,rfl,ox,oy,bx,by',q⟩:=h
 unfold Cp
 walk_at "rd"
 have m:∀{i j:Int},Sz 4300 i->Sz 4300 j->IntMulOk i j:=fun h g=>nO h g ⋯
 exact⟨m bx.a by'.c,m by'.a bx.c,m bx.b by'.c,m by'.b bx.c,m bx.c by'.c,_,_,_,rfl,Cr ox oy,(bx.c.mul by'.c).mono ⋯,q⟩
theorem B5(h:iZ ds Z Qd):sF ‹Qd› (aL ["_law_x","_law_y"] ds) Z:=HU h
theorem MP(h:fE ds Z Qd):Bv ‹Qd› (aL ["x","y"] ds) Z:=by
 obtain⟨x,y,rfl,ox,oy,bx,by',q⟩:=h
 unfold Bv
 walk_at "rd"
 have m:∀{i j:Int},Sz 4300 i->Sz 4300 j->IntMulOk i j:=fun h g=>nO h g ⋯
 exact⟨m bx.a by'.c,m by'.a bx.c,m bx.b by'.c,m by'.b bx.c,m bx.c by'.c,_,_,_,rfl,Cr ox oy,(bx.c.mul by'.c).mono ⋯,q⟩
theorem Sg(a b c a' b' c':Int):PyData.eqv (.tuple [.int a,.int b,.int c]) (.tuple [.int a',.int b',.int c'])=decide (a=a'/\b=b'/\c=c'):=by
 simp[PyData.eqv,PyData.eqvAll]
 rfl
end
noncomputable def ia:DTS:=
 (aK (cF (y6 (dB (dOp (cM false) (ah 1) (dC (.int 0)))) (dB (dOp (cM false) (ah 2) (dC (.int 0))))) (bb (dC (.int 0))) bA)
 (aK (cF (y6 (dB (dOp rGe (ah 1) (dC (.int 0)))) (dB (dOp rGe (ah 2) (dC (.int 0))))) (bb (dC (.int 1))) bA)
 (aK (cF (y6 (dB (dOp rLe (ah 1) (dC (.int 0)))) (dB (dOp rLe (ah 2) (dC (.int 0))))) (bb (qL (dC (.int 1)))) bA)
 (aK (bc (dIf (dB (dOp rGt (d3 (ah 1) (ah 1)) (d3 (d3 (ah 0) (ah 2)) (ah 2)))) (ah 1) (ah 2)) (ao 3))
 (bb (dIf (dB (dOp rGt (ah 3) (dC (.int 0)))) (dC (.int 1)) (qL (dC (.int 1)))))))))
noncomputable def qI:DTS:=
 (bb (az uq (ag (ah 0) (ag (dOp aM (ah 1) (dC (.int 0))) (ag (dOp aM (ah 1) (dC (.int 1))) aw)))))
noncomputable def nX:DTS:=
 (aK (bc (oq (d3 (dOp aM (ah 1) (dC (.int 0))) (dOp aM (ah 2) (dC (.int 2)))) (d3 (dOp aM (ah 2) (dC (.int 0))) (dOp aM (ah 1) (dC (.int 2))))) (ao 3))
 (aK (bc (oq (d3 (dOp aM (ah 1) (dC (.int 1))) (dOp aM (ah 2) (dC (.int 2)))) (d3 (dOp aM (ah 2) (dC (.int 1))) (dOp aM (ah 1) (dC (.int 2))))) (ao 4))
 (bb (dOp (cM false) (az uq (ag (ah 0) (ag (ah 3) (ag (ah 4) aw)))) (dC (.int 1))))))
noncomputable def nj:DTS:=
 (aK (Cu 2 3 (ag (d3 (dOp aM (ah 1) (dC (.int 0))) (dOp aM (ah 1) (dC (.int 0)))) (ag (d3 (d3 (ah 0) (dOp aM (ah 1) (dC (.int 1)))) (dOp aM (ah 1) (dC (.int 1)))) aw)))
 (aK (bc (wB (ag (oq (dCB tp (ag (dOp rGt (dOp aM (ah 1) (dC (.int 0))) (dC (.int 0))) aw)) (dCB tp (ag (dOp rLt (dOp aM (ah 1) (dC (.int 0))) (dC (.int 0))) aw))) (ag (oq (dCB tp (ag (dOp rGt (dOp aM (ah 1) (dC (.int 1))) (dC (.int 0))) aw)) (dCB tp (ag (dOp rLt (dOp aM (ah 1) (dC (.int 1))) (dC (.int 0))) aw))) aw))) (ao 4))
 (aK (cF (dB (dOp rGe (d3 (dOp aM (ah 4) (dC (.int 0))) (dOp aM (ah 4) (dC (.int 1)))) (dC (.int 0)))) (bb (dIf (dB (dOp (cM true) (dOp aM (ah 4) (dC (.int 0))) (dC (.int 0)))) (dOp aM (ah 4) (dC (.int 0))) (dOp aM (ah 4) (dC (.int 1))))) bA)
 (bb (dIf (dB (dOp rGt (ah 2) (ah 3))) (dOp aM (ah 4) (dC (.int 0))) (dOp aM (ah 4) (dC (.int 1))))))))
noncomputable def k9:DTS:=
 (bb (dOp rGt (az hJ (ag (ah 0) (ag (az iZ (ag (ah 2) (ag (az p5 (ag (ah 1) aw)) aw))) aw))) (dC (.int 0))))
section
variable {Z:Mu}{Qd:DK}{ds:List D}
theorem vw(h:uq ds Z Qd):ia ‹Qd› (aL ["d","a","b","prevailing"] ds) Z:=by
 obtain⟨d,a,b,rfl,hd,ha,hb,q⟩:=h
 unfold ia
 walk_at "rd"
 have m1:MulOk a a:=nO ha ha ⋯
 have m2:MulOk d b:=nO hd hb ⋯
 have m3:MulOk (d*b) b:=nO (hd.mul hb) hb ⋯
 unfold sg at q
 by_cases h1:a=0
 ·by_cases h2:b=0
  ·subst h1 h2;simpa using q
  ·subst h1
   rcases Int.lt_or_gt_of_ne h2 with h3|h3
   ·have e:¬ (0<=b):=by omega
    have e':b<=0:=by omega
    simp only[h2,e,e',and_false,true_and,if_true,if_false,decide_true,decide_false,Int.le_refl,↓reduceIte,false_eq_true] at q ⊢
    exact q
   ·have e:(0<=b):=by omega
    simp only[h2,e,and_false,true_and,if_true,if_false,decide_true,decide_false,Int.le_refl,↓reduceIte,false_eq_true] at q ⊢
    exact q
 ·by_cases h3:0<=a<;>by_cases h4:0<=b<;>by_cases h5:a<=0<;>by_cases h6:b<=0<;>by_cases h7:d*b*b<a*a<;>(try (exfalso;omega))<;>
   simp only[h1,h3,h4,h5,h6,h7,and_false,false_and,and_true,true_and,if_true,if_false,decide_true,decide_false,↓reduceIte,false_eq_true,and_self,m1,m2,m3,gt_iff_lt] at q ⊢<;>(try exact q)
  all_goals
   first
   |(by_cases h8:0<a<;>simp only[h8,if_true,if_false,decide_true,decide_false,↓reduceIte,false_eq_true] at q ⊢<;>exact q)
   |(by_cases h8:0<b<;>simp only[h8,if_true,if_false,decide_true,decide_false,↓reduceIte,false_eq_true] at q ⊢<;>exact q)
theorem He(h:hJ ds Z Qd):qI ‹Qd› (aL ["d","x"] ds) Z:=by
 obtain⟨d,x,rfl,hd,bx,q⟩:=h
 unfold qI
 walk_at "rd"
 exact⟨d,x.a,x.b,rfl,Qq hd.1 hd.2.1,bx.a.mono ⋯,bx.b.mono ⋯,q⟩
theorem DV(h:w6 ds Z Qd):nX ‹Qd› (aL ["d","x","y","a","b"] ds) Z:=by
 obtain⟨d,x,y,rfl,hd,bx,by',q⟩:=h
 unfold nX
 walk_at "rd"
 have m:∀{i j:Int},Sz 4400 i->Sz 4400 j->IntMulOk i j:=fun h g=>nO h g ⋯
 refine⟨m bx.a by'.c,m by'.a bx.c,m bx.b by'.c,m by'.b bx.c,d,_,_,rfl,Qq hd.1 hd.2.1,((bx.a.mul by'.c).sub (by'.a.mul bx.c)).mono ⋯,((bx.b.mul by'.c).sub (by'.b.mul bx.c)).mono ⋯,?_⟩
 walk_at "rd"
 exact q
theorem P4{d a b sa sb:Int}(ha:(a<0/\sa = -1)\/(a=0/\sa=0)\/(0<a/\sa=1))(hb:(b<0/\sb = -1)\/(b=0/\sb=0)\/(0<b/\sb=1)) :
  sg d a b=if 0<=sa*sb then (if sa≠0 then sa else sb) else if d*b*b<a*a then sa else sb:=by
 unfold sg
 by_cases h7:d*b*b<a*a<;>rcases ha with ⟨h1,rfl⟩|⟨h1,rfl⟩|⟨h1,rfl⟩<;>rcases hb with ⟨h2,rfl⟩|⟨h2,rfl⟩|⟨h2,rfl⟩<;>simp only[h7,↓reduceIte]<;>(repeat' split)<;>omega
theorem BS(h:hJ ds Z Qd):nj ‹Qd› (aL ["_law_d","_law_x","_law_first","_law_second","_law_sides"] ds) Z:=by
 obtain⟨d,x,rfl,hd,bx,q⟩:=h
 unfold nj
 walk_at "rd"
 have s5:=Qq hd.1 hd.2.1
 refine⟨nO bx.a bx.a ⋯,nO s5 bx.b ⋯,nO (s5.mul bx.b) bx.b ⋯,?_⟩
 have sd:∀u:Int,(u<0/\((if decide (0<u)=true then 1 else 0)-if decide (u<0)=true then 1 else 0:Int) = -1)\/(u=0/\((if decide (0<u)=true then 1 else 0)-if decide (u<0)=true then 1 else 0:Int)=0)\/(0<u/\((if decide (0<u)=true then 1 else 0)-if decide (u<0)=true then 1 else 0:Int)=1):=fun u=>by
  simp only[decide_eq_true_eq]
  split<;>split<;>omega
 have ha:=sd x.a
 have hb:=sd x.b
 generalize ((if decide (0<x.a)=true then 1 else 0)-if decide (x.a<0)=true then 1 else 0:Int)=sa at ha ⊢
 generalize ((if decide (0<x.b)=true then 1 else 0)-if decide (x.b<0)=true then 1 else 0:Int)=sb at hb ⊢
 rw[P4 ha hb] at q
 refine⟨mulL ∅,?_⟩
 by_cases c1:0<=sa*sb<;>by_cases c2:sa=0<;>by_cases c3:d*x.b*x.b<x.a*x.a<;>simp only[c1,c2,c3,decide_true,decide_false,↓reduceIte,false_eq_true,xor_false,Bool.xor_true,Bool.not_true,ne_eq,not_true_eq_false,not_false_eq_true,Int.zero_mul,Int.le_refl] at q ⊢<;>exact q
theorem Al(h:w9 ds Z Qd):k9 ‹Qd› (aL ["_law_d","_law_x","_law_y"] ds) Z:=by
 obtain⟨d,x,y,rfl,hd,ox,oy,bx,by',q⟩:=h
 unfold k9
 walk_at "rd"
 refine⟨x,rfl,y,minus x,rfl,oy,iX ox,by'.mono ⋯,(sU bx).mono ⋯,d,plus y (minus x),rfl,hd,(rW oy (iX ox) by' (sU bx)).mono ⋯,?_⟩
 walk_at "rd"
 have e:sg d (plus y (minus x)).a (plus y (minus x)).b=dif d y x:=by
  obtain⟨k,hk,hs,p1,p2,p3,_⟩:=lH (y.a*(minus x).c+(minus x).a*y.c) (y.b*(minus x).c+(minus x).b*y.c) (Cr oy (iX ox))
  have hk0:0<k:=hs.mpr (Int.mul_pos oy.c (iX ox).c)
  unfold dif
  have e1:y.a*x.c-x.a*y.c=k*(plus y (minus x)).a:=by rw[show k*(plus y (minus x)).a=_ from p1.symm];show _=y.a*x.c + -x.a*y.c;grind
  have e2:y.b*x.c-x.b*y.c=k*(plus y (minus x)).b:=by rw[show k*(plus y (minus x)).b=_ from p2.symm];show _=y.b*x.c + -x.b*y.c;grind
  rw[e1,e2,pJ hd hk0]
 rw[e]
 have t:=nz d (y.a*x.c-x.a*y.c) (y.b*x.c-x.b*y.c)
 have f:decide (0<dif d y x)=decide (dif d y x=1):=by unfold dif;rcases t with z|z|z<;>rw[z]<;>decide
 rw[f]
 exact q
end
noncomputable def nY:DTS:=
 (aK (bc (dC (.int 0)) (ao 2))
 (aK (cF (dB (dOp rLt (ah 1) (dCB dw (ag (ah 0) aw)))) (bc (dOp aM (ah 0) (ah 1)) (ao 2)) bA)
 (aK (bc (dC (.int 0)) (ao 3))
 (aK (cF (dB (dOp rGe (dCB tW (ag (ah 2) aw)) (OK (dC (.int 10)) (dC (.int 18))))) (bc (dCB tW (ag (ah 2) aw)) (ao 3)) bA)
 (aK (bc (wB (ag (dC (.int 2147483647)) (ag (dC (.int 2147483629)) (ag (dC (.int 2147483587)) (ag (dC (.int 2147483579)) (ag (dC (.int 2147483563)) (ag (dC (.int 2147483549)) (ag (dC (.int 2147483543)) (ag (dC (.int 2147483497)) aw))))))))) (ao 4))
 (aK (bc (de (de (de (d3 (zf (ah 2) (dC (.int 2147483647))) (dC (.int 69623))) (d3 (d3 (dC (.int 104729)) (ah 1)) (ah 1))) (d3 (dC (.int 7919)) (ah 1))) (dC (.int 12345))) (ao 5))
 (bb (qx (ag (ah 3) (ag (zf (ah 5) (dOp aM (ah 4) (zf (ah 1) (dC (.int 8))))) aw))))))))))
section
variable {Z:Mu}{Qd:DK}{ds:List D}
theorem tF{α:Type}{xs:List α}{i:Int}(h0:0<=i)(h:i<(xs.length:Nat)):∃d,atI xs i=some d/\d∈xs:=by
 have hj:i.toNat<xs.length:=by omega
 have e:=mQ (xs:=xs) (j:=i.toNat) (v:=xs[i.toNat]) (by simp[hj])
 rw[show ((i.toNat:Nat):Int)=i by omega] at e
 exact⟨_,e,getElem_mem _⟩
theorem oI(x:Int){y:Int}(h:0<y):0<=x.fmod y/\x.fmod y<y:=⟨Int.fmod_nonneg_of_pos x h,Int.fmod_lt_of_pos x h⟩
theorem NY{x y:Int}(hx:0<=x)(hy:0<y):0<=x.fdiv y:=by rw[Int.fdiv_eq_ediv_of_nonneg _ ∅];exact Int.ediv_nonneg hx ∅
noncomputable def pT:List PyData:=[.int 2147483647,.int 2147483629,.int 2147483587,.int 2147483579,.int 2147483563,.int 2147483549,.int 2147483543,.int 2147483497]
theorem Ep(h:Il ds Z Qd):nY ‹Qd› (aL ["_law_script","_law_at","_law_cell","_law_great","_law_primes","_law_mixed"] ds) Z:=by
 obtain⟨ns,k,rfl,h0,h1,q⟩:=h
 unfold nY
 have hp:∃pr:Int,atI pT (k.fmod 8)=some (.int pr)/\0<pr/\pr<2147483648:=by
  obtain⟨h2,h3⟩:=oI k (show (0:Int)<8 by decide)
  obtain⟨p,e,hm⟩:=tF (xs:=pT) h2 (by exact h3)
  simp only[pT,mem_cons,not_mem_nil,or_false] at hm
  rcases hm with rfl|rfl|rfl|rfl|rfl|rfl|rfl|rfl<;>exact⟨_,e,⋯,⋯⟩
 obtain⟨pr,hpe,hp0,hp1⟩:=hp
 unfold pT at hpe
 walk_at "rd"
 rw[hpe]
 walk_at "rd"
 have c1:Qp 10 18:=⟨⋯,⋯,⋯⟩
 have z1:(2147483647:Int)≠0:=by decide
 have z2:(8:Int)≠0:=by decide
 have m1:∀i:Int,MulOk i 69623:=fun i=>mulR ⋯
 have m2:MulOk 104729 k:=mulL ⋯
 have m3:MulOk (104729*k) k:=mulR ∅
 have m4:MulOk 7919 k:=mulL ⋯
 have z3:pr≠0:=by omega
 have fin:∀G x:Int,0<=G->∀p,Z p=none->Qd (.m p) (aD Z p [.int G,.int (x.fmod pr)]):=fun G x hG p hp=>by
  obtain⟨h2,h3⟩:=oI x hp0
  exact q p _ hp (Step.set hG h2 ∅)
 by_cases hk:k<(ns.length:Nat)
 ·rw[if_pos (by simpa using hk)]
  obtain⟨c,hc,_⟩:=tF h0 hk
  rw[hc]
  walk_at "rd"
  refine⟨c1,?_⟩
  split
  ·exact⟨z1,m1 _,m2,m3,m4,z2,z3,fin _ _ ∅⟩
  ·exact⟨z1,m1 _,m2,m3,m4,z2,z3,fin _ _ ∅⟩
 ·rw[if_neg (by simpa using hk)]
  refine⟨c1,?_⟩
  split
  ·exact⟨z1,m1 _,m2,m3,m4,z2,z3,fin _ _ ∅⟩
  ·exact⟨z1,m1 _,m2,m3,m4,z2,z3,fin _ _ ∅⟩
end
noncomputable def nC:DTS:=
 (aK (cF (fZ (du (dB (wX "tuple" (ah 0)))) (dB (dOp (cM true) (dCB dw (ag (ah 0) aw)) (dC (.int 3))))) (bb (dC (.bool false))) bA)
 (aK (bc (ah 0) (bU 3 (aA (ao 1) (aA (ao 2) (aA (ao 3) bY)))))
 (aK (cF (fZ (du (dB (az jv (ag (ah 1) aw)))) (fZ (du (dB (az jv (ag (ah 2) aw)))) (du (dB (az jv (ag (ah 3) aw)))))) (bb (dC (.bool false))) bA)
 (bb (kA (dOp rGe (ah 3) (dC (.int 1))) (dOp (cM false) (az xJ (ag (ah 1) (ag (ah 2) (ag (ah 3) aw)))) (dC (.int 1))))))))
section
variable {Z:Mu}{Qd:DK}{ds:List D}
noncomputable def HJ(i:Int):Bool:=decide (2<=i)&&decide (i<=30)&&!(decide (i=4) || decide (i=9) || decide (i=16) || decide (i=25))
theorem dF(d:PyData):(∃i,d = .int i/\isWhole d=true)\/((∀i,d≠.int i)/\isWhole d=false):=by
 cases d<;>first|exact .inl ⟨_,rfl,rfl⟩|exact .inr ⟨fun _ z=>(by cases z),rfl⟩
theorem Ih(d:PyData):(∃xs,d = .tuple xs/\isT "tuple" d=true)\/((∀xs,d≠.tuple xs)/\isT "tuple" d=false):=by
 cases d<;>first|exact .inl ⟨_,rfl,rfl⟩|exact .inr ⟨fun _ z=>(by cases z),rfl⟩
theorem A8{d:PyData}(h:∀xs,d≠.tuple xs):isNum d=false:=by cases d<;>first|rfl|exact absurd rfl (h _)
theorem AY{xs:List PyData}(h:xs.length≠3):isNum (.tuple xs)=false:=by
 unfold isNum
 split
 ·rename_i e;cases e;exact absurd rfl h
 ·rfl
theorem three{α:Type}{xs:List α}(h:xs.length=3):∃a b c,xs=[a,b,c]:=by
 match xs,h with
 |[a,b,c],_=>exact⟨a,b,c,rfl⟩
theorem B6(h:kS ds Z Qd):nC ‹Qd› (aL ["thing","a","b","c"] ds) Z:=by
 obtain⟨d,rfl,_,q⟩:=h
 unfold nC
 walk_at "rd"
 rcases Ih d with ⟨xs,rfl,e⟩|⟨hn,e⟩
 ·rw[e]
  walk_at "rd"
  by_cases hl:xs.length=3
  ·obtain⟨a,b,c,rfl⟩:=three hl
   have e3:decide ((([a,b,c].length:Nat):Int)=3)=true:=rfl
   have e3':[a,b,c].length=3:=rfl
   simp only[e3,Bool.xor_self,false_eq_true,↓reduceIte]
   refine⟨rfl,?_⟩
   walk_at "rd"
   refine⟨a,rfl,?_⟩
   rcases dF a with ⟨i,rfl,e⟩|⟨hn,e⟩
   ·rw[e]
    walk_at "rd"
    refine⟨b,rfl,?_⟩
    rcases dF b with ⟨j,rfl,e⟩|⟨hn,e⟩
    ·rw[e]
     walk_at "rd"
     refine⟨c,rfl,?_⟩
     rcases dF c with ⟨k,rfl,e⟩|⟨hn,e⟩
     ·rw[e]
      walk_at "rd"
      have q':Qd (.v (.bool (decide (1<=k)&&(g3 i j k==1)))) Z:=q
      by_cases hk:1<=k
      ·rw[if_pos (by simpa using hk)]
       refine⟨i,j,k,rfl,?_⟩
       walk_at "rd"
       have ee:decide (((g3 i j k:Nat):Int)=1)=(decide (1<=k)&&(g3 i j k==1)):=by
        rw[decide_eq_true hk,Bool.true_and,Bool.eq_iff_iff];simp;omega
       rw[ee]
       exact q'
      ·rw[if_neg (by simpa using hk)]
       rw[decide_eq_false hk] at q'
       exact q'
     ·rw[e]
      walk_at "rd"
      have:isNum (.tuple [.int i,.int j,c])=false:=by cases c<;>first|rfl|exact absurd rfl (hn _)
      rw[this] at q
      exact q
    ·rw[e]
     walk_at "rd"
     have:isNum (.tuple [.int i,b,c])=false:=by cases b<;>first|rfl|exact absurd rfl (hn _)
     rw[this] at q
     exact q
   ·rw[e]
    walk_at "rd"
    have:isNum (.tuple [a,b,c])=false:=by cases a<;>first|rfl|exact absurd rfl (hn _)
    rw[this] at q
    exact q
  ·rw[AY hl] at q
   have:decide (((xs.length:Nat):Int)=3)=false:=by simp;omega
   rw[this]
   simp only[xor_false,↓reduceIte]
   exact q
 ·rw[e]
  rw[A8 hn] at q
  walk_at "rd"
  exact q
end
noncomputable def gb:DTS:=
 (aK (cF (fZ (du (dB (wX "tuple" (ah 0)))) (fZ (dB (dOp (cM true) (dCB dw (ag (ah 0) aw)) (dC (.int 3)))) (du (dB (dCB vV (ag (nN [none] (gR (ah 0)) (ao 0) gp (az jv (ag (ah 0) aw))) aw)))))) (bb (dC (.bool false))) bA)
 (bb (kA (dOp rGt (dOp aM (ah 0) (dC (.int 2))) (dC (.int 0))) (dOp (cM false) (az n8 (ag (az n8 (ag (dOp aM (ah 0) (dC (.int 0))) (ag (dOp aM (ah 0) (dC (.int 1))) aw))) (ag (dOp aM (ah 0) (dC (.int 2))) aw))) (dC (.int 1))))))
section
variable {Z:Mu}{Qd:DK}{ds:List D}
theorem tK(h:kS ds Z Qd):gb ‹Qd› (aL ["_law_thing"] ds) Z:=by
 obtain⟨d,rfl,few,q⟩:=h
 unfold gb
 walk_at "rd"
 rcases Ih d with ⟨xs,rfl,e⟩|⟨hn,e⟩
 ·rw[e]
  walk_at "rd"
  by_cases hl:xs.length=3
  ·obtain⟨a,b,c,rfl⟩:=three hl
   have e3:decide ((([a,b,c].length:Nat):Int)=3)=true:=rfl
   simp only[e3,Bool.xor_self,false_eq_true,↓reduceIte]
   refine⟨by simp,fun x=>some (.bool (isWhole x)),fun x hx U hs=>⟨trivial,x,rfl,rfl,rfl⟩,?_⟩
   rw[Ik (fun x=>PyData.bool (isWhole x)),vX]
   simp only[map_cons,map_nil,List.all_cons,List.all_nil,id,Bool.and_true]
   rcases dF a with ⟨i,rfl,ea⟩|⟨hn,ea⟩
   ·rcases dF b with ⟨j,rfl,e1⟩|⟨hn,e1⟩
    ·rcases dF c with ⟨k,rfl,e2⟩|⟨hn,e2⟩
     ·rw[ea,e1,e2]
      simp only[Bool.and_self]
      walk_at "rd"
      have q':Qd (.v (.bool (decide (1<=k)&&(g3 i j k==1)))) Z:=q
      by_cases hk:1<=k
      ·rw[if_pos (by simp;omega)]
       refine⟨i,j,rfl,_,k,rfl,?_⟩
       walk_at "rd"
       have ee:decide (((Int.gcd (Int.gcd i j:Nat) k:Nat):Int)=1)=(decide (1<=k)&&(g3 i j k==1)):=by
        unfold g3
        rw[decide_eq_true hk,Bool.true_and,Bool.eq_iff_iff];simp;omega
       rw[ee]
       exact q'
      ·rw[if_neg (by simp;omega)]
       rw[decide_eq_false hk] at q'
       exact q'
     ·rw[ea,e1,e2]
      simp only[Bool.and_false]
      walk_at "rd"
      have:isNum (.tuple [.int i,.int j,c])=false:=by cases c<;>first|rfl|exact absurd rfl (hn _)
      rw[this] at q
      exact q
    ·rw[ea,e1]
     simp only[Bool.and_false,Bool.false_and]
     walk_at "rd"
     have:isNum (.tuple [.int i,b,c])=false:=by cases b<;>first|rfl|exact absurd rfl (hn _)
     rw[this] at q
     exact q
   ·rw[ea]
    simp only[Bool.and_false,Bool.false_and]
    walk_at "rd"
    have:isNum (.tuple [a,b,c])=false:=by cases a<;>first|rfl|exact absurd rfl (hn _)
    rw[this] at q
    exact q
  ·rw[AY hl] at q
   have:decide (((xs.length:Nat):Int)=3)=false:=by simp;omega
   rw[this]
   simp only[xor_false,↓reduceIte]
   exact q
 ·rw[e]
  rw[A8 hn] at q
  walk_at "rd"
  exact q
theorem pick{P:PyData->Prop}{xs:List PyData}{i:Int}(h0:0<=i)(h1:i<(xs.length:Nat))(h:∀x∈xs,P x):∃d,atI xs i=some d/\P d:=let ⟨d,e,m⟩:=tF h0 h1;⟨d,e,h d m⟩
end
noncomputable def mT:DTS:=
 (aK (cF (dB (dOp (cM false) (az cL (ag (ah 0) (ag (dC (.int 2)) aw))) (dC (.int 0)))) (bb (dOp aM (wB (ag (dC (.int 2)) (ag (dC (.int 3)) (ag (dC (.int 5)) aw)))) (az cL (ag (ah 0) (ag (dC (.int 3)) aw))))) bA)
 (aK (bc (jW [none] (qN (ag (dC (.int 2)) (ag (dC (.int 31)) aw))) (ao 0) (dB (dOp (Nw true) (ah 0) (wB (ag (dC (.int 4)) (ag (dC (.int 9)) (ag (dC (.int 16)) (ag (dC (.int 25)) aw))))))) (ah 0)) (ao 1))
 (bb (dOp aM (ah 1) (az cL (ag (ah 0) (ag (dC (.int 25)) aw)))))))
section
variable {Z:Mu}{Qd:DK}{ds:List D}
theorem NS{lo:Int}{n:Nat}{x:PyData}(h:x∈og lo n):∃i:Int,x = .int i/\lo<=i/\i<lo+n:=by
 unfold og at h
 obtain⟨k,hk,rfl⟩:=List.mem_map.mp h
 have:=List.mem_range.mp hk
 exact⟨_,rfl,∅,∅⟩
noncomputable def EN:PyData->Option PyData
 |.int i=>if HJ i then some (.int i) else none
 |_=>none
noncomputable def Ci:List PyData:=[2,3,5,6,7,8,10,11,12,13,14,15,17,18,19,20,21,22,23,24,26,27,28,29,30].map PyData.int
theorem in4(i:Int):(List.any [PyData.int 4,PyData.int 9,PyData.int 16,PyData.int 25] fun b=>PyData.eqv b (.int i))=(decide (i=4) || decide (i=9) || decide (i=16) || decide (i=25)):=by
 have ev:∀j:Int,PyData.eqv (.int j) (.int i)=decide (i=j):=fun j=>by rw[R9];simp[eq_comm]
 simp only[List.any_cons,List.any_nil,ev,Bool.or_false,Bool.or_assoc]
theorem BN(h:w5 ds Z Qd):mT ‹Qd› (aL ["_law_bag_here","_law_some"] ds) Z:=by
 obtain⟨a,rfl,hb,q⟩:=h
 unfold mT
 walk_at "rd"
 refine⟨a,2,rfl,⋯,⋯,hb,fun r0 ad h0 h1 s1=>?_⟩
 walk_at "rd"
 by_cases hr:r0=0
 ·rw[if_pos (by simpa using hr)]
  refine⟨a,3,rfl,⋯,⋯,s1.1,fun r1 am h2 h3 s2=>?_⟩
  walk_at "rd"
  obtain⟨w,e,i,rfl,w0⟩:=pick (P:=fun d=>∃i:Int,d = .int i/\aJ i) (xs:=[PyData.int 2,PyData.int 3,PyData.int 5]) h2 (by exact h3) (by
   intro x hx
   simp only[mem_cons,not_mem_nil,or_false] at hx
   rcases hx with rfl|rfl|rfl<;>exact⟨_,rfl,by unfold aJ;omega⟩)
  rw[e]
  exact q _ _ w0 (s1.trans s2)
 ·rw[if_neg (by simpa using hr)]
  refine⟨⟨⋯,⋯,⋯,⋯⟩,⋯,fun p hp=>⟨fun i acc U=>acc=((og 2 29).take i).filterMap EN/\U=aD ad p acc,⟨rfl,rfl⟩,?_,?_⟩⟩
  ·rintro i x acc U hx hpa ⟨e0,e1⟩
   obtain⟨k,rfl,i0,i1⟩:=NS (mem_of_getElem? hx)
   refine⟨trivial,rfl,rfl,by show 0<=60;decide,?_⟩
   rw[in4]
   have i1':k<31:=by simpa using i1
   have e:EN (.int k)=if HJ k then some (.int k) else none:=rfl
   have e2:HJ k = !(decide (k=4) || decide (k=9) || decide (k=16) || decide (k=25)):=by
    unfold HJ
    rw[decide_eq_true i0,decide_eq_true (show k<=30 by omega)]
    rfl
   have ft:((og 2 29).take (i+1)).filterMap EN=((og 2 29).take i).filterMap EN++(EN (.int k)).toList:=O9 hx
   rw[e,e2] at ft
   cases hh:(decide (k=4) || decide (k=9) || decide (k=16) || decide (k=25))
   ·rw[hh] at ft
    simp only[Bool.true_xor,Bool.not_false,↓reduceIte] at ft ⊢
    refine⟨hpa,?_,?_⟩
    ·rw[ft,e0];rfl
    ·rw[e1,ig]
   ·rw[hh] at ft
    simp only[Bool.true_xor,Bool.not_true,↓reduceIte,false_eq_true] at ft ⊢
    refine⟨hpa,?_,e1⟩
    rw[ft,e0];simp
  rintro acc U ⟨e0,e1⟩ _
  have ed:lI U p=ad:=by rw[e1];exact qd hp
  rw[ed]
  have e0':acc=Ci:=by rw[e0];rfl
  rw[e0']
  refine⟨a,25,rfl,⋯,⋯,s1.1,fun r1 am h2 h3 s2=>?_⟩
  walk_at "rd"
  obtain⟨w,e,i,rfl,w0⟩:=pick (P:=fun d=>∃i:Int,d = .int i/\aJ i) (xs:=Ci) h2 (by exact h3) (by
   intro x hx
   unfold Ci at hx
   obtain⟨k,hk,rfl⟩:=List.mem_map.mp hx
   exact⟨_,rfl,(show ∀k∈([2,3,5,6,7,8,10,11,12,13,14,15,17,18,19,20,21,22,23,24,26,27,28,29,30]:List Int),aJ k by unfold aJ;decide) k hk⟩)
  rw[e]
  exact q _ _ w0 (s1.trans s2)
end
section
variable {Z:Mu}{Q:DK}{ds:List D}
noncomputable def x8:DSp:=fun ds Z Q=>∃ns:List Int,ds=[.s ns]/\ns.length<=63/\∀U,Q (.v (.bool true)) U
theorem vW(h:jv ds Z Q):ds.length=1:=by obtain⟨_,rfl,_⟩:=h;rfl
theorem Bm(h:n8 ds Z Q):ds.length=2:=by obtain⟨_,_,rfl,_⟩:=h;rfl
theorem FG(h:xJ ds Z Q):ds.length=3:=by obtain⟨_,_,_,rfl,_⟩:=h;rfl
theorem zg(h:kS ds Z Q):ds.length=1:=by obtain⟨_,rfl,_⟩:=h;rfl
theorem sI(h:eW ds Z Q):ds.length=3:=by obtain⟨_,_,_,rfl,_⟩:=h;rfl
theorem Fy(h:p5 ds Z Q):ds.length=1:=by obtain⟨_,rfl,_⟩:=h;rfl
theorem yU(h:iZ ds Z Q):ds.length=2:=by obtain⟨_,_,rfl,_⟩:=h;rfl
theorem xt(h:fE ds Z Q):ds.length=2:=by obtain⟨_,_,rfl,_⟩:=h;rfl
theorem Ez(h:uq ds Z Q):ds.length=3:=by obtain⟨_,_,_,rfl,_⟩:=h;rfl
theorem yq(h:hJ ds Z Q):ds.length=2:=by obtain⟨_,_,rfl,_⟩:=h;rfl
theorem Ej(h:w6 ds Z Q):ds.length=3:=by obtain⟨_,_,_,rfl,_⟩:=h;rfl
theorem Dx(h:w9 ds Z Q):ds.length=3:=by obtain⟨_,_,_,rfl,_⟩:=h;rfl
theorem Je(h:Il ds Z Q):ds.length=2:=by obtain⟨_,_,rfl,_⟩:=h;rfl
theorem Et(h:w5 ds Z Q):ds.length=1:=by obtain⟨_,rfl,_⟩:=h;rfl
theorem Jl(h:x8 ds Z Q):ds.length=1:=by obtain⟨_,rfl,_⟩:=h;rfl
end
noncomputable def mB:DTS:=kC
theorem vE{Z Qd ds}(h:jv ds Z Qd):mB ‹Qd› (aL ["_law_thing"] ds) Z:=vJ h
structure Q6(K:PySem.W.Frag)(mg:Str->Option Value)(x:Str)(g:Addr)(a b c:Int):Prop where
 m:mg x=some (.ref g)
 l:∃(od:Option Addr) (n:Nat) (sl:Array (Option Value)) (t u v:Tok),K.lookup g=some ⟨.type "tuple",od,.seq #[.int a t,.int b u,.int c v] n,sl⟩
theorem Ld{X:Cx}{x:Str}{g:Addr}{a b c:Int}{pos:Pos}(hg:Gl X x)(h:Q6 X.K X.mg x g a b c)(hd:(x==("__debug__":Str))=false:=by decide):DE X (.Name x pos) (dC (.tuple [.int a,.int b,.int c])):=by
 obtain⟨od,n,sl,t,u,v,e⟩:=h.l
 refine H0 (u:=.ref g) hg h.m rfl (fun Z H _=>Rp.tuple (xs:=[.int a,.int b,.int c]) (.inr ⟨_,_,_,e,rfl,rfl,(by show 3<=sizeLine;decide),.cons ⟨t,rfl⟩ (.cons ⟨u,rfl⟩ (.cons ⟨v,rfl⟩ .nil))⟩) (.cons (.int a) (.cons (.int b) (.cons (.int c) .nil)))) hd
theorem Jc{K:PySem.W.Frag}{H:Hp}{a:Addr}{ns:List Int}(hl:ns.length<=63)(hT:DB K H)(hS:SqL K H a (ns.map V.int)):spD K x8 [.ref a] H (fun v _=>v = .bl true) fun _ _ _=>False:=by
 refine⟨[.s ns],⟨fun _=>none,fun _=>none⟩,fun d _=>d = .v (.bool true),⟨fun a ds h=>(by cases h),hT,fun a c h=>(by cases h)⟩,.cons ⟨a,rfl,hS,rfl⟩ .nil,⟨ns,rfl,hl,fun _=>rfl⟩,fun d u U H' _ _ r q=>?_⟩
 subst q
 cases r
 rfl
end L2.DL
namespace L2
open PySem PySem.Spec PyProof.Rows
end L2
namespace L2.DL
open PySem PySem.Spec PyProof.Rows
end L2.DL
namespace L2
open PySem PySem.Spec PyProof.Rows
end L2
namespace L2.DL
open PySem PySem.Spec PyProof.Rows
end L2.DL
namespace L2
open PySem PySem.Spec PyProof.Rows
end L2
namespace L2.DL
open PySem PySem.Spec PyProof.Rows
end L2.DL
namespace L2
open PySem PySem.Spec PyProof.Rows
end L2
namespace L2
open PySem PySem.Spec PyProof.Rows
end L2
namespace L2.DL
open PySem PySem.Spec PyProof.Rows
noncomputable def intsOf:List PyData->Option (List Int)
 |[]=>some []
 |.int i::r=>(intsOf r).map (i::·)
 |_=>none
theorem HF{K:PySem.W.Frag}{Z:Mu}{H:Hp}:∀{ds:List PyData} {us:List V} {k:List Int},RpL K Z H ds us->intsOf ds=some k->us=k.map V.int
 |[],_,_,.nil,e=>by cases e;rfl
 |d::ds,_,k,.cons h t,e=>by
  cases d with
  |int i=>
   cases h
   rw[intsOf] at e
   cases q:intsOf ds with
   |none=>rw[q] at e;cases e
   |some k'=>rw[q] at e;cases e;rw[HF t q];rfl
  |_=>cases e
section
variable {α:Type}
noncomputable def bX(kvs:List (List Int×α))(k:List Int):Option α:=(kvs.find? fun x=>decide (x.1=k)).map (·.2)
noncomputable def i5(kvs:List (List Int×α))(k:List Int)(v:α):List (List Int×α):=if (bX kvs k).isSome=true then kvs.map (fun x=>if x.1=k then (x.1,v) else x) else kvs++[(k,v)]
theorem dO{p:List Int×α}{r:List (List Int×α)}{k:List Int}(e:p.1=k):bX (p::r) k=some p.2:=by simp[bX,List.find?_cons,e]
theorem dP{p:List Int×α}{r:List (List Int×α)}{k:List Int}(e:¬ p.1=k):bX (p::r) k=bX r k:=by simp[bX,List.find?_cons,e]
theorem Bf(k j:List Int)(v:α):∀kvs:List (List Int×α),bX (kvs.map fun x=>if x.1=k then (x.1,v) else x) j=if j=k then (bX kvs j).map (fun _=>v) else bX kvs j
 |[]=>by split<;>rfl
 |p::r=>by
  have ih:=Bf k j v r
  rw[map_cons]
  by_cases h:p.1=k
  ·rw[if_pos h]
   by_cases e:p.1=j
   ·rw[dO (p:=(p.1,v)) e,if_pos (e.symm.trans h),dO e];rfl
   ·rw[dP (p:=(p.1,v)) e,ih,dP e]
  ·rw[if_neg h]
   by_cases e:p.1=j
   ·rw[dO e,if_neg (fun z=>h (e.trans z)),dO e]
   ·rw[dP e,ih,dP e]
theorem yu(k j:List Int)(v:α):∀kvs:List (List Int×α),bX kvs k=none->bX (kvs++[(k,v)]) j=if j=k then some v else bX kvs j
 |[],_=>by
  by_cases e:k=j
  ·rw[if_pos e.symm];exact dO (p:=(k,v)) e
  ·rw[if_neg (fun z=>e z.symm)];exact dP (p:=(k,v)) e
 |p::r,h=>by
  rw[cons_append]
  by_cases e:p.1=k
  ·rw[dO e] at h;cases h
  ·rw[dP e] at h
   by_cases f:p.1=j
   ·rw[dO f,dO f,if_neg (fun z=>e (f.trans z))]
   ·rw[dP f,yu k j v r h,dP f]
theorem Jz(kvs:List (List Int×α))(k j:List Int)(v:α):bX (i5 kvs k v) j=if j=k then some v else bX kvs j:=by
 unfold i5
 cases q:bX kvs k with
 |none=>
  rw[if_neg (fun z=>nomatch z)]
  exact yu k j v kvs q
 |some x=>
  rw[if_pos (show (some x).isSome=true from rfl),Bf]
  by_cases e:j=k
  ·subst e;rw[if_pos rfl,if_pos rfl,q];rfl
  ·rw[if_neg e,if_neg e]
theorem Ea{kvs:List (List Int×α)}{k:List Int}{v:α}(h:bX kvs k=none):i5 kvs k v=kvs++[(k,v)]:=by unfold i5;rw[h];rfl
theorem yK(kvs:List (List Int×α))(k:List Int)(v:α):(i5 kvs k v).length<=kvs.length+1:=by
 unfold i5
 split
 ·rw[length_map];omega
 ·rw[length_append];exact le_refl _
end
section
variable {K:PySem.W.Frag}{Z ad:Mu}{H H1:Hp}{p:Addr}
theorem gH.look{kvs:List (List Int×PyData)}{xs:List (List Int×Addr×Value)}(r:gH K Z H kvs xs)(k:List Int) :
  (bX kvs k=none/\atKey xs k=none)\/∃d q v w,bX kvs k=some d/\atKey xs k=some (q,w)/\Rp K Z H d v/\RelV v w:=by
 unfold gH at r
 induction r with
 |nil=>exact .inl ⟨rfl,rfl⟩
 |@cons a b as bs h t ih=>
  obtain⟨h1,h2,v,h3,h4⟩:=h
  by_cases e:a.1=k
  ·refine .inr ⟨a.2,b.2.1,v,b.2.2,dO e,?_,h3,h4⟩
   have:b.1=k:=h1.symm.trans e
   simp[atKey,List.find?_cons,this]
  ·have e2:¬ b.1=k:=fun z=>e (h1.trans z)
   have e3:atKey (b::bs) k=atKey bs k:=by simp[atKey,List.find?_cons,e2]
   rw[dP e,e3]
   exact ih
theorem gH.put{kvs:List (List Int×PyData)}{xs:List (List Int×Addr×Value)}(r:gH K Z H kvs xs){k:List Int}{q:Addr}{d:PyData}{v:V}{w:Value}(hq:SqT K H q (k.map V.int))(hd:Rp K Z H d v)(hv:RelV v w) :
  gH K Z H (i5 kvs k d) (storedH xs k q w):=by
 have hl:=r.look k
 unfold i5 storedH
 rcases hl with ⟨l1,l2⟩|⟨d',q',v',w',l1,l2,_,_⟩
 ·rw[l1,l2]
  exact Paired.snoc r ⟨rfl,hq,v,hd,hv⟩
 ·rw[l1,l2]
  rw[if_pos (show (some d').isSome=true from rfl),if_pos (show (some (q',w')).isSome=true from rfl)]
  clear l1 l2
  unfold gH at r ⊢
  induction r with
  |nil=>exact .nil
  |@cons a b as bs h t ih=>
   obtain⟨h1,h2,h3⟩:=h
   refine .cons ?_ ih
   unfold putAt
   dsimp only
   by_cases e:a.1=k
   ·rw[if_pos e,if_pos (h1.symm.trans e)]
    exact⟨h1,h2,v,hd,hv⟩
   ·rw[if_neg e,if_neg (fun z=>e (h1.trans z))]
    exact⟨h1,h2,h3⟩
theorem gH.length{kvs:List (List Int×PyData)}{xs:List (List Int×Addr×Value)}(r:gH K Z H kvs xs):kvs.length=xs.length:=Paired.length r
theorem xk{o o':Obj}{c:Box}(h:H p=some (.raw o)):Ext K Z H (bo Z p c) (upd H p (.raw o')) where
 keep:=fun b u e n t=>by
  have:b≠p:=fun z=>by rw[z,h] at e;cases e;exact t
  rw[aS this];exact e
 tb:=fun b ps e n=>by
  have:b≠p:=fun z=>by rw[z,h] at e;cases e
  exact⟨ps,by rw[aS this];exact e⟩
 dom:=fun b ds q=>⟨ds,q⟩
 fresh:=fun b n q=>n
 st:=fun b u e n=>by
  by_cases z:b=p
  ·subst z;exact⟨_,eU⟩
  ·exact⟨u,by rw[aS z];exact e⟩
 bx:=fun b c' q=>by
  by_cases z:b=p
  ·subst z;exact⟨_,ba⟩
  ·exact⟨c',by rw[bW z];exact q⟩
theorem bJ.GC{c:Box}{o o':Obj}(ok:bJ K Z H)(hs:(p==sysModules)=false)(h:H p=some (.raw o))(r:iM K Z H c o'):bJ K (bo Z p c) (upd H p (.raw o')):=by
 have e:Ext K Z H (bo Z p c) (upd H p (.raw o')):=xk h
 refine⟨fun a ds q=>?_,ok.tab.of fun b u e' n1 n2=>?_,fun a c' q=>?_⟩
 ·obtain⟨xs,h1,h2⟩:=ok.lst a ds q
  have:a≠p:=fun z=>by rw[z,h] at h1;cases h1
  exact⟨xs,by rw[aS this];exact h1,h2.ext ok e⟩
 ·have:b≠p:=fun z=>by rw[z,h] at e';exact n2 o (Option.some.inj e').symm
  rw[aS this];exact e'
 ·by_cases z:a=p
  ·subst z
   rw[ba] at q;cases q
   exact⟨hs,o',eU,r.ext ok e⟩
  ·rw[bW z] at q
   obtain⟨y,ob,h1,h2⟩:=ok.box a c' q
   exact⟨y,ob,by rw[aS z];exact h1,h2.ext ok e⟩
theorem jQ{o:Obj}{c:Box}(ok:bJ K Z H)(h:H p=none):Ext K Z H (bo Z p c) (upd H p (.raw o)) where
 keep:=fun b u e _ _=>by rw[aS (aY e h)];exact e
 tb:=fun b ps e _=>⟨ps,by rw[aS (aY e h)];exact e⟩
 dom:=fun b ds q=>⟨ds,q⟩
 fresh:=fun b n q=>n
 st:=fun b u e _=>⟨u,by rw[aS (aY e h)];exact e⟩
 bx:=fun b c' q=>by
  have:b≠p:=fun z=>by rw[z,ok.Io h] at q;cases q
  exact⟨c',by rw[bW this];exact q⟩
theorem bJ.Hj{c:Box}{o:Obj}(ok:bJ K Z H)(hs:(p==sysModules)=false)(h:H p=none)(r:iM K Z H c o):bJ K (bo Z p c) (upd H p (.raw o)):=by
 have e:Ext K Z H (bo Z p c) (upd H p (.raw o)):=jQ ok h
 refine⟨fun a ds q=>?_,ok.tab.of fun b u e' _ _=>?_,fun a c' q=>?_⟩
 ·obtain⟨xs,h1,h2⟩:=ok.lst a ds q
  exact⟨xs,by rw[aS (aY h1 h)];exact h1,h2.ext ok e⟩
 ·rw[aS (aY e' h)];exact e'
 ·by_cases z:a=p
  ·subst z
   rw[ba] at q;cases q
   exact⟨hs,o,eU,r.ext ok e⟩
  ·rw[bW z] at q
   obtain⟨y,ob,h1,h2⟩:=ok.box a c' q
   exact⟨y,ob,by rw[aS z];exact h1,h2.ext ok e⟩
theorem A2{o:Obj}(h:o={cls:=.type "dict",data:=.dict #[]}):iM K Z H (.dict []) o:=by
 subst h
 exact⟨zero_le _,⟨rfl,rfl,rfl⟩,#[],0,[],rfl,rfl,List.nodup_nil,.nil⟩
theorem K0{o:Obj}{led:Bool}(h:o={cls:=.type "set",dict:=none,data:=.set #[] 0 (.fresh 0 0 led)}):iM K Z H (.set []) o:=by
 subst h
 exact⟨⟨rfl,rfl,rfl⟩,[],0,_,rfl,{place:=rfl,ris:=.nil,le:=fun _ h=>by simp at h,dum:=rfl,two:=⟨3,rfl,le_refl _⟩,on:=fun _ h=>by simp at h},(show 0*5<7*3 by decide),rfl,fun _ h=>by simp at h,fun _ h=>by simp at h⟩
end
section
variable {X:Cx}{pins:List (Addr×Obj)}{σ:St}{H:Hp}{s:Shared}{Z:Mu}
theorem items_int{P:Program}{w:World}:∀{ks:List Int} {us:List Value},Vals (ks.map V.int) us->ItemsAre (intKind P w) ks us
 |[],_,r=>by rw[map_nil] at r;cases r;exact .nil
 |k::ks,_,r=>by
  rw[map_cons] at r
  cases r with
  |cons h t=>obtain⟨tk,rfl⟩:=h;exact .cons (by show Value.isInt k (.int k tk)=true;simp[Value.isInt]) (items_int t)
theorem iy{q:Addr}{ks:List Int}(I:Inv X pins σ H s)(h:SqT X.K H q (ks.map V.int)):IsTupleKey (intKind X.prog X.w) s.heap ks q:=by
 obtain⟨its,r,⟨o,h1,h2,n,h3⟩,_⟩:=I.tuple h
 exact⟨o,its.toArray,n,h1,h2,h3,by simpa using items_int r⟩
theorem K6{kvs:List (List Int×PyData)}{xs:List (List Int×Addr×Value)}(I:Inv X pins σ H s)(r:gH X.K Z H kvs xs):∀x∈xs,IsTupleKey (intKind X.prog X.w) s.heap x.1 x.2.1:=by
 unfold gH at r
 induction r with
 |nil=>intro x hx;exact nomatch hx
 |@cons a b as bs h t ih=>
  intro x hx
  rcases List.mem_cons.mp hx with rfl|hx
  ·obtain⟨h1,h2,_⟩:=h
   rw[<- h1]
   exact iy I h2
  ·exact ih x hx
theorem ql{kvs:List (List Int×PyData)}{a:Addr}{o:Obj}(I:Inv X pins σ H s)(h:H a=some (.raw o))(r:iM X.K Z H (.dict kvs) o) :
  ∃xs,gH X.K Z H kvs xs/\s.heap.DictOfH (tupleKind (intKind X.prog X.w)) a xs/\xs.length<=sizeLine:=by
 obtain⟨h1,h2,es,ep,xs,h3,h4,h5,h6⟩:=r
 exact⟨xs,h6,⟨o,es,ep,(show s.heap.get? a=some o from I.hok a _ h),h2,h3,h4,K6 I h6,h5⟩,by rw[<- h6.length];exact h1⟩
theorem Bc{kvs:List (List Int×PyData)}{a:Addr}{xs:List (List Int×Addr×Value)}{h':Heap}(hl:kvs.length<=sizeLine)(r:gH X.K Z H kvs xs)(d:h'.DictOfH (tupleKind (intKind X.prog X.w)) a xs) :
  ∃o,h'.get? a=some o/\iM X.K Z H (.dict kvs) o:=by
 obtain⟨o,es,ep,h1,h2,h3,h4,_,h5⟩:=d
 exact⟨o,h1,hl,h2,es,ep,xs,h3,h4,h5,r⟩
end
section
variable {X:Cx}{pins:List (Addr×Obj)}{σ:St}{H:Hp}{s:Shared}{Z:Mu}{A:Around}{E:Value->Shared->Prop}
theorem FF{ks:List (List Int)}{a:Addr}{o:Obj}(I:Inv X pins σ H s)(h:H a=some (.raw o))(r:iM X.K Z H (.set ks) o) :
  ∃L:ST.Ln Value,ST.E8 s.heap a L/\L.length=ks.length/\(∀x∈L,∃k,ST.Ent (intKind X.prog X.w) s.heap x k/\k∈ks)/\(∀k∈ks,∃x∈L,ST.Ent (intKind X.prog X.w) s.heap x k) /\
   (∀x∈L,∃k q,x.2.2 = .ref q/\SqT X.K H q (k.map V.int)/\x.2.1=hI k/\k∈ks)/\∀k∈ks,∃x∈L,∃q,x.2.2 = .ref q/\SqT X.K H q (k.map V.int):=by
 obtain⟨h1,L,ep,t,h2,h3,h4,h5,h6,h7⟩:=r
 have ent:∀x∈L,∃k,ST.Ent (intKind X.prog X.w) s.heap x k/\k∈ks:=fun x hx=>by
  obtain⟨k,q,z1,z2,z3,z4⟩:=h6 x hx
  exact⟨k,⟨q,z1,iy I z2,z3⟩,z4⟩
 refine⟨L,⟨o,ep,t,(show s.heap.get? a=some o from I.hok a _ h),h1,h2,h3,h4⟩,h5,ent,fun k hk=>?_,h6,h7⟩
 obtain⟨x,hx,q,z1,z2⟩:=h7 k hk
 obtain⟨k',e',_⟩:=ent x hx
 have:k=k':=by
  obtain⟨q',y1,y2,_⟩:=e'
  rw[z1] at y1;cases y1
  exact (iy I z2).inj y2
 subst this
 exact⟨x,hx,e'⟩
theorem Iq{L:ST.Ln Value}{ks:List (List Int)}{h:Heap}{k:List Int}(a:∀x∈L,∃k,ST.Ent (intKind X.prog X.w) h x k/\k∈ks)(b:∀k∈ks,∃x∈L,ST.Ent (intKind X.prog X.w) h x k) :
  (∃x∈L,ST.Ent (intKind X.prog X.w) h x k)↔k∈ks:=by
 constructor
 ·rintro ⟨x,hx,e⟩
  obtain⟨k',e',hk⟩:=a x hx
  rw[e.inj e'];exact hk
 ·exact b k
theorem PL{ks:List (List Int)}{a q:Addr}{o:Obj}{k:List Int}{Q:Value->Shared->Prop}(hu:A.units+64<cLine)(I:Inv X pins σ H s)(h:H a=some (.raw o))(r:iM X.K Z H (.set ks) o)(hk:SqT X.K H q (k.map V.int))(hb:ks.length<=9800)
  (hq:∀s',Inv X pins σ H s'->Q (.bool (decide (k∈ks))) s'):wpAny (model X.prog X.w) A (compareOp .In (.ref q) (.ref a)) Q E s:=by
 obtain⟨L,S,len,en1,en2,_,_⟩:=FF I h r
 have hT:s.TypeIs (.ref a) "set":=let ⟨o,_,_,ho,hc,_⟩:=S;⟨o,ho,hc.1⟩
 show wpAny _ _ (do return .bool (<- contains (.ref a) (.ref q))) Q E s
 refine wpAny_bind ?_
 unfold contains
 try with_reducible refine wpAny_holding ?_
 refine wpAny_bind (wpAny_specialOf hT PySem.F.slot_set_contains.lookup ?_)
 show wpAny _ _ (if (some (Value.builtin "set.__contains__")==some Value.none)=true then _ else _) _ E s
 rw[if_neg (by rw[beq_builtin_none];exact Bool.false_ne_true)]
 refine wpAny_bind (wpAny_callSpecialUnlessNone?_slot (name:=Str.ofString "__contains__") hT PySem.F.slot_set_contains
  (wpAny_call_entry PySem.F.slot_set_contains hT entry_set_contains ?_ (PySem.F.args_set_contains_2 _ _)))
 unfold Builtin.«frozenset.__contains__» Builtin.Frozenset.oneOther
 simp only[List.isEmpty_nil,bind_assoc]
 unfold Builtin.Frozenset.addrOf Builtin.Frozenset.withSetAsKey
 refine wpAny_bind (wpAny_pure ?_)
 try dsimp only
 refine wpAny_bind (wpAny_pure ?_)
 try dsimp only
 refine wpAny_bind (wpAny_tryCatch ?_)
 refine ST.Ei (by show A.units+1<cLine;omega) S (fun x hx=>let ⟨k,e,_⟩:=en1 x hx;⟨k,e⟩) ∅ (iy I hk) fun b hbq=>?_
 have e:b=decide (k∈ks):=by
  rw[Bool.eq_iff_iff,hbq,Iq en1 en2,decide_eq_true_eq]
 show wpAny _ _ (ret (Value.bool b)) _ _ _
 exact wpAny_pure ⟨_,rfl,wpAny_truthy_bool (wpAny_pure (by rw[e];exact hq _ (I.tok _)))⟩
theorem Nc{ks:List (List Int)}{a q:Addr}{o:Obj}{k:List Int}{Q:Value->Shared->Prop}(hu:A.units+64<cLine)(I:Inv X pins σ H s)(h:H a=some (.raw o))(r:iM X.K Z H (.set ks) o)(hk:SqT X.K H q (k.map V.int))(hb:ks.length<=9800)(hn:k ∉ ks)
  (hq:∀o' s',Inv X pins σ (upd H a (.raw o')) s'->iM X.K Z H (.set (ks++[k])) o'->Q .none s'):wpAny (model X.prog X.w) A (call (.builtin "set.add") [.ref a,.ref q]) Q E s:=by
 obtain⟨L,S,len,en1,en2,r1,r2⟩:=FF I h r
 have hT:s.TypeIs (.ref a) "set":=let ⟨o,_,_,ho,hc,_⟩:=S;⟨o,ho,hc.1⟩
 refine wpAny_call_entry PySem.F.slot_set_add hT PySem.F.entry_set_add ?_ (PySem.F.args_set_add_2 _ _)
 unfold Builtin.«set.add» Builtin.Frozenset.oneOther
 simp only[List.isEmpty_nil,bind_assoc]
 unfold Builtin.Frozenset.addrOf
 refine wpAny_bind (wpAny_pure ?_)
 try dsimp only
 refine wpAny_bind (wpAny_pure ?_)
 try dsimp only
 refine wpAny_bind ?_
 refine ST.Qk (by show A.units+1<cLine;omega) S (fun x hx=>let ⟨k,e,_⟩:=en1 x hx;⟨k,e⟩) ∅ (iy I hk) (fun z=>absurd ((Iq en1 en2).mp z) hn) fun _ h' L' sb S' len' mem'=>?_
 obtain⟨o',ep,t,ho,hex,hd,T,hr⟩:=S'
 show wpAny _ _ (ret Value.none) _ _ _
 refine wpAny_pure ⟨_,rfl,hq o' _ (BL I (by rw[h];exact True.intro) sb ⟨o',ho⟩ ho) ⟨hex,L',ep,t,hd,T,hr,by rw[len',len,length_append];rfl,fun x hx=>?_,fun k' hk'=>?_⟩⟩
 ·rcases (mem' x.2).mp (List.mem_map.mpr ⟨x,hx,rfl⟩) with z|z
  ·obtain⟨y,hy,ey⟩:=List.mem_map.mp z
   obtain⟨k',q',y1,y2,y3,y4⟩:=r1 y hy
   exact⟨k',q',by rw[<- ey];exact y1,y2,by rw[<- ey];exact y3,mem_append_left _ y4⟩
  ·exact⟨k,q,by rw[z],hk,by rw[z];rfl,mem_append_right _ (List.mem_singleton.mpr rfl)⟩
 ·rcases List.mem_append.mp hk' with z|z
  ·obtain⟨y,hy,q',y1,y2⟩:=r2 k' z
   obtain⟨x,hx,ex⟩:=List.mem_map.mp ((mem' y.2).mpr (.inl (List.mem_map.mpr ⟨y,hy,rfl⟩)))
   exact⟨x,hx,q',by rw[ex];exact y1,y2⟩
  ·rw[mem_singleton] at z
   subst z
   obtain⟨x,hx,ex⟩:=List.mem_map.mp ((mem' (tupleKeyHash (intKind X.prog X.w) k',.ref q)).mpr (.inr rfl))
   exact⟨x,hx,q,by rw[ex],hk⟩
end
section
variable {X:Cx}{a b e o:Expr}{ta tb te to:DTE}{pos p apos cpos:Pos}
theorem DE.mk{td:DTE}(h:∀(pins:List (Addr×Obj)) (s:Shared) (σ:St) (H:Hp) (ρ:Rho) (Z:Mu) (Qd:DK),Inv X pins σ H s->St0 X.K H ρ Z σ->td ρ Z Qd ->
  wpAny (model X.prog X.w) X.A (eval e X.env) (fun v s'=>∃d u U H',Inv X pins σ H' s'/\RelV u v/\Ext X.K Z H U H'/\St0 X.K H' ρ U σ/\RpD X.K U H' d u/\Qd d U) X.xe s):DE X e td:=by
 refine⟨fun σ H Q=>∃ρ Z Qd,St0 X.K H ρ Z σ/\td ρ Z Qd/\∀d u U H',Ext X.K Z H U H'->St0 X.K H' ρ U σ->RpD X.K U H' d u->Qd d U->Q u H',?_,fun σ H ρ Z Qd Q S h k=>⟨ρ,Z,Qd,S,h,k⟩⟩
 intro pins s σ H Q I ⟨ρ,Z,Qd,S,q,k⟩
 exact wpAny_mono (h pins s σ H ρ Z Qd I S q) (fun v s' ⟨d,u,U,H',I',rv,ex,S',rd,q'⟩=>⟨u,H',I',rv,k d u U H' ex S' rd q'⟩) fun _ _ z=>z
theorem DE.use{td:DTE}(h:DE X e td){pins:List (Addr×Obj)}{s:Shared}{σ:St}{H:Hp}{ρ:Rho}{Z:Mu}{Qd:DK}(I:Inv X pins σ H s)(S:St0 X.K H ρ Z σ)(q:td ρ Z Qd) :
  wpAny (model X.prog X.w) X.A (eval e X.env) (fun v s'=>∃d u U H',Inv X pins σ H' s'/\RelV u v/\Ext X.K Z H U H'/\St0 X.K H' ρ U σ/\RpD X.K U H' d u/\Qd d U) X.xe s:=by
 obtain⟨t,p,l⟩:=h
 exact wpAny_mono (p pins s σ H (fun u H'=>∃d U,Ext X.K Z H U H'/\St0 X.K H' ρ U σ/\RpD X.K U H' d u/\Qd d U) I (l σ H ρ Z Qd _ S q fun d u U H' ex S' r z=>⟨d,U,ex,S',r,z⟩))
  (fun v s' ⟨u,H',I',rv,d,U,ex,S',r,z⟩=>⟨d,u,U,H',I',rv,ex,S',r,z⟩) fun _ _ z=>z
noncomputable def Br:DTE:=fun _ Z Q=>∀p,Z.b p=none->Q (.b p) (bo Z p (.set []))
noncomputable def se:DTE:=fun _ Z Q=>∀p,Z.b p=none->Q (.b p) (bo Z p (.dict []))
theorem Me{ρ:Rho}{Z:Mu}{Q:DK}:Br ρ Z Q = ∀p,Z.b p=none->Q (.b p) (bo Z p (.set [])):=rfl
theorem JW{ρ:Rho}{Z:Mu}{Q:DK}:se ρ Z Q = ∀p,Z.b p=none->Q (.b p) (bo Z p (.dict [])):=rfl
theorem Hg{pins:List (Addr×Obj)}{s:Shared}{σ:St}{H:Hp}(I:Inv X pins σ H s):(s.heap.objs.size==sysModules)=false:=beq_eq_false_iff_ne.mpr (Ne.symm (ne_of_lt I.big))
theorem JU(hg:Gl X "set")(hm:X.mg "set"=none):DE X (.Call (.Name "set" p) [] [] pos) Br:=by
 refine DE.mk fun pins s σ H ρ Z Qd I S q=>?_
 refine wpAny_Call_Name_kw (pA I hg hm PyProof.Rows.Boot.«set» ?_ ⋯ ⋯)
 refine PyProof.Rows.callWith_type0 (call_set_0 fun led=>?_)
 have hn:=I.hok.fresh (le_refl s.heap.objs.size)
 have ex:=jQ (K:=X.K) (o:={cls:=.type "set",dict:=none,data:=.set #[] 0 (.fresh 0 0 led)}) (c:=.set []) S.mu hn
 refine⟨.b s.heap.objs.size,.ref s.heap.objs.size,bo Z s.heap.objs.size (.set []),_,I.laid (a:=s.heap.objs.size) (o:=.raw _) (t':=s.toks) (fun _ _ q=>Heap.get?_push_of_some _ q) (le_refl _) (Heap.get?_push_size _ rfl),rfl,ex,
  ⟨S.mu.Hj (Hg I) hn (K0 rfl),S.rho.ext S.mu ex⟩,⟨rfl,_,ba⟩,q _ (S.mu.Io hn)⟩
theorem vD:DE X (.Dict [] [] pos) se:=by
 refine DE.mk fun pins s σ H ρ Z Qd I S q=>?_
 refine wpAny_Dict_empty ?_
 have hn:=I.hok.fresh (le_refl s.heap.objs.size)
 have ex:=jQ (K:=X.K) (o:={cls:=.type "dict",data:=.dict #[]}) (c:=.dict []) S.mu hn
 refine⟨.b s.heap.objs.size,.ref s.heap.objs.size,bo Z s.heap.objs.size (.dict []),_,I.laid (a:=s.heap.objs.size) (o:=.raw _) (t':=s.toks) (fun _ _ q=>Heap.get?_push_of_some _ q) (le_refl _) (Heap.get?_push_size _ rfl),rfl,ex,
  ⟨S.mu.Hj (Hg I) hn (A2 rfl),S.rho.ext S.mu ex⟩,⟨rfl,_,ba⟩,q _ (S.mu.Io hn)⟩
noncomputable def nR:D->Option (List Int)
 |.v (.tuple ds)=>intsOf ds
 |_=>none
theorem pY{K:PySem.W.Frag}{Z:Mu}{H:Hp}{d:D}{u:V}{k:List Int}(r:RpD K Z H d u)(h:nR d=some k):∃q,u = .ref q/\SqT K H q (k.map V.int):=by
 cases d with
 |v x=>
  cases x with
  |tuple ds=>
   cases r with
   |tuple hs rl=>exact⟨_,rfl,by rw[<- HF rl h];exact hs⟩
  |_=>cases h
 |_=>cases h
noncomputable def inB(c:Box)(k:List Int):Bool:=match c with
 |.set ks=>decide (k∈ks)
 |.dict kvs=>(bX kvs k).isSome
noncomputable def Ly:Box->Prop
 |.set ks=>ks.length<=9800
 |.dict kvs=>kvs.length<=9800
noncomputable def D5(neg:Bool):D->D->Mu->DK->Prop:=fun x y Z Q=>∃k a c,nR x=some k/\y = .b a/\Z.b a=some c/\Ly c/\(neg=true->∃kvs,c = .dict kvs)/\Q (.v (.bool (xor neg (inB c k)))) Z
noncomputable def Pd(K:PySem.W.Frag)(r:D->D->Mu->DK->Prop):R2:=fun ux uy H Q=>∃x y Z Qd,bJ K Z H/\RpD K Z H x ux/\RpD K Z H y uy/\r x y Z Qd/\∀d u U H',Ext K Z H U H'->bJ K U H'->RpD K U H' d u->Qd d U->Q u H'
theorem Lp{K:PySem.W.Frag}{r:D->D->Mu->DK->Prop}:jY K (Pd K r) r:=fun x y ux uy H Z Qd Q ok rx ry h k=>⟨x,y,Z,Qd,ok,rx,ry,h,k⟩
theorem Qi(hu:X.A.units+64<cLine):OpR X (compareOp .In) (Pd X.K (D5 false)):=by
 intro pins s σ H ux uy v u Q I rv ru h
 obtain⟨x,y,Z,Qd,ok,rx,ry,⟨k,a,c,hk,rfl,hc,few,_,q⟩,kk⟩:=h
 obtain⟨qk,rfl,hq⟩:=pY rx hk
 obtain⟨rfl,_⟩:=ry
 cases rv;cases ru
 obtain⟨ns,ob,hr,hb⟩:=ok.box a c hc
 have fin:∀s',Inv X pins σ H s'->EP X pins σ Q (.bool (inB c k)) s':=fun s' I'=>⟨.bl (inB c k),H,I',rfl,kk (.v (.bool (inB c k))) _ Z H .refl ok (Rp.bool _) (by rw[false_xor] at q;exact q)⟩
 cases c with
 |set ks=>exact PL hu I hr hb hq few fin
 |dict kvs=>
  obtain⟨xs,dp,dd,len⟩:=ql I hr hb
  refine wpAny_in_heap (tupleKind_room_in1 ∅) (iy I hq) ns dd ?_
  have e:(atKey xs k).isSome=inB (.dict kvs) k:=by
   show _=(bX kvs k).isSome
   rcases dp.look k with ⟨l1,l2⟩|⟨d',q',v',w',l1,l2,_,_⟩
   ·rw[l1,l2];rfl
   ·rw[l1,l2];rfl
  rw[e]
  exact fin _ (I.tok _)
theorem IX(hu:X.A.units+64<cLine):OpR X (compareOp .NotIn) (Pd X.K (D5 true)):=by
 intro pins s σ H ux uy v u Q I rv ru h
 obtain⟨x,y,Z,Qd,ok,rx,ry,⟨k,a,c,hk,rfl,hc,few,hn,q⟩,kk⟩:=h
 obtain⟨qk,rfl,hq⟩:=pY rx hk
 obtain⟨rfl,_⟩:=ry
 cases rv;cases ru
 obtain⟨ns,ob,hr,hb⟩:=ok.box a c hc
 obtain⟨kvs,rfl⟩:=hn rfl
 obtain⟨xs,dp,dd,len⟩:=ql I hr hb
 refine wpAny_notIn_heap (tupleKind_room_in1 ∅) (iy I hq) ns dd ?_
 have e:(atKey xs k).isSome=inB (.dict kvs) k:=by
  show _=(bX kvs k).isSome
  rcases dp.look k with ⟨l1,l2⟩|⟨d',q',v',w',l1,l2,_,_⟩
  ·rw[l1,l2];rfl
  ·rw[l1,l2];rfl
 rw[e]
 exact⟨.bl (!inB (.dict kvs) k),H,I.tok _,rfl,kk (.v (.bool _)) _ Z H .refl ok (Rp.bool _) (by rw[Bool.true_xor] at q;exact q)⟩
theorem Lx(hu:X.A.units+64<cLine)(ha:DE X a ta)(hb:DE X b tb)(hm:behindInMarks .In b=false:=by rfl):DT X (.Compare a [.In] [b] pos) (dB (dOp (D5 false) ta tb)):=aN (Qi hu) Lp ha hb hm
theorem A9(hu:X.A.units+64<cLine)(ha:DE X a ta)(hb:DE X b tb)(hm:behindInMarks .NotIn b=false:=by rfl):DT X (.Compare a [.NotIn] [b] pos) (dB (dOp (D5 true) ta tb)):=aN (IX hu) Lp ha hb hm
end
section
variable {X:Cx}{a b e o i value:Expr}{ta tb te to ti tv:DTE}{pos pos' p apos cpos:Pos}
noncomputable def LW(to te:DTE):DTE:=fun ρ Z Q=>to ρ Z fun x ad=>∃a ks0,x = .b a/\ad.b a=some (.set ks0)/\te ρ ad fun y am=>∃k ks,nR y=some k/\am.b a=some (.set ks)/\ks.length<=9800/\k ∉ ks/\Q (.v .none) (bo am a (.set (ks++[k])))
theorem Pz{ρ:Rho}{Z:Mu}{Q:DK}:LW to te ρ Z Q=to ρ Z fun x ad=>∃a ks0,x = .b a/\ad.b a=some (.set ks0)/\te ρ ad fun y am=>∃k ks,nR y=some k/\am.b a=some (.set ks)/\ks.length<=9800/\k ∉ ks/\Q (.v .none) (bo am a (.set (ks++[k]))):=rfl
theorem MG(hu:X.A.units+64<cLine)(ho:DE X o to)(he:DE X e te)(m:M1 X o "add" apos e cpos:=by exact⟨rfl,rfl,rfl,rfl⟩):DE X (.Call (.Attribute o "add" apos) [e] [] cpos) (LW to te):=by
 refine DE.mk fun pins s σ H ρ Z Qd I S q=>?_
 refine wpAny_Call_method m.base m.few m.line PySem.F.plainAttrs_set PySem.F.slot_set_add PySem.F.type_set_add (thn (ho.use I S q) fun u s1 h1=>?_)
 obtain⟨x,ux,ad,H1,I1,rx,e1,S1,rd,a,ks0,ex,hb0,q1⟩:=h1
 subst ex
 obtain⟨rfl,_⟩:=rd
 cases rx
 obtain⟨ns,ob,hr,hb⟩:=S1.mu.box a _ hb0
 obtain⟨L,SA,_,_,_,_,_⟩:=FF I1 hr hb
 obtain⟨ob',ep,t,g1,g2,_⟩:=SA
 refine⟨⟨ob',g1,g2.1⟩,fun b z=>by cases z;exact⟨ob',g1,g2.2.1⟩,?_⟩
 rw[m.trees]
 refine Calls.callWith_builtin rfl (Calls.evalArgs_plain (Calls.spliced_cons (thn (he.use I1 S1 q1) fun iv s2 h2=>Calls.spliced_nil ?_)))
 obtain⟨y,uy,am,H2,I2,ry,e2,S2,rd2,k,ks,hk,hb2,few,hn,q2⟩:=h2
 obtain⟨qk,rfl,hq⟩:=pY rd2 hk
 cases ry
 obtain⟨_,ob2,hr2,hb3⟩:=S2.mu.box a _ hb2
 refine Nc hu I2 hr2 hb3 hq few hn fun o' s3 I3 hb4=>?_
 have ex:=xk (K:=X.K) (Z:=am) (c:=.set (ks++[k])) (o':=o') hr2
 exact⟨.v .none,.non,_,_,I3,rfl,e1.trans (e2.trans ex),⟨S2.mu.GC ns hr2 hb4,S2.rho.ext S2.mu ex⟩,Rp.none,q2⟩
noncomputable def Fx(to ti:DTE):DTE:=fun ρ Z Q=>to ρ Z fun x ad=>ti ρ ad fun y am=>∃a kvs k d,x = .b a/\nR y=some k/\am.b a=some (.dict kvs)/\bX kvs k=some d/\Q (.v d) am
theorem Rg{ρ:Rho}{Z:Mu}{Q:DK}:Fx to ti ρ Z Q=to ρ Z fun x ad=>ti ρ ad fun y am=>∃a kvs k d,x = .b a/\nR y=some k/\am.b a=some (.dict kvs)/\bX kvs k=some d/\Q (.v d) am:=rfl
theorem uJ(hu:X.A.units+64<cLine)(ho:DE X o to)(hi:DE X i ti)(hs:Qx i:=by exact fun _ _=>rfl):DE X (.Subscript o i pos) (Fx to ti):=by
 refine DE.mk fun pins s σ H ρ Z Qd I S q=>?_
 refine MU PySem.F.slot_dict_getitem.lookup hs (thn (ho.use I S q) fun u s1 h1=>?_)
 obtain⟨x,ux,ad,H1,I1,rx,e1,S1,rd,q1⟩:=h1
 refine thn (hi.use I1 S1 q1) fun iv s2 h2=>?_
 obtain⟨y,uy,am,H2,I2,ry,e2,S2,rd2,a,kvs,k,d,ex,hk,hb2,hl,q2⟩:=h2
 subst ex
 obtain⟨rfl,_⟩:=rd
 cases rx
 obtain⟨qk,rfl,hq⟩:=pY rd2 hk
 cases ry
 obtain⟨ns,ob,hr,hb⟩:=S2.mu.box a _ hb2
 obtain⟨xs,dp,dd,len⟩:=ql I2 hr hb
 rcases dp.look k with ⟨l1,_⟩|⟨d',q',v',w',l1,l2,l3,l4⟩
 ·rw[hl] at l1;cases l1
 ·rw[hl] at l1;cases l1
  refine⟨dd.typeIs,wpAny_getItem_heap (tupleKind_room_in1 ∅) (iy I2 hq) dd l2 ?_⟩
  exact⟨.v d,v',am,H2,I2.tok _,l4,e1.trans e2,S2,l3,q2⟩
noncomputable def AV(to ti tv:DTE):DTS:=fun D ρ Z=>tv ρ Z fun v ad=>to ρ ad fun x am=>ti ρ am fun y bi=>∃a kvs k d,v = .v d/\x = .b a/\nR y=some k/\bi.b a=some (.dict kvs)/\kvs.length<=9800/\D.nx ρ (bo bi a (.dict (i5 kvs k d)))
theorem Pm{D:AX}{ρ:Rho}{Z:Mu}:AV to ti tv D ρ Z=tv ρ Z fun v ad=>to ρ ad fun x am=>ti ρ am fun y bi=>∃a kvs k d,v = .v d/\x = .b a/\nR y=some k/\bi.b a=some (.dict kvs)/\kvs.length<=9800/\D.nx ρ (bo bi a (.dict (i5 kvs k d))):=rfl
theorem Ct(hu:X.A.units+64<cLine)(ho:DE X o to)(hi:DE X i ti)(hv:DE X value tv)(hs:swapsWith value (some (.Subscript o i pos')) pos.line X.env=pure false:=by rfl):DS X (.Assign [.Subscript o i pos'] value pos) (AV to ti tv):=by
 refine⟨fun De σ H=>∃ρ Z Dd,St0 X.K H ρ Z σ/\AV to ti tv Dd ρ Z/\∀bn be U H',Ext X.K Z H U H'->St0 X.K H' be U bn->Dd.nx be U->De.nx bn H',?_,fun σ H ρ Z Dd De S h kn _ _ _=>⟨ρ,Z,Dd,S,h,kn⟩⟩
 intro pins s σ H D I ⟨ρ,Z,Dd,S,q,kn⟩
 refine wpAny_Assign_Subscript (thn (hv.use I S q) fun r s1 h1=>?_) hs
 obtain⟨v,uv,ad,H1,I1,rv,e1,S1,rd1,q1⟩:=h1
 refine thn (ho.use I1 S1 q1) fun u s2 h2=>?_
 obtain⟨x,ux,am,H2,I2,rx,e2,S2,rd2,q2⟩:=h2
 refine thn (hi.use I2 S2 q2) fun iv s3 h3=>?_
 obtain⟨y,uy,bi,H3,I3,ry,e3,S3,rd3,a,kvs,k,d,ev,ex,hk,hb3,few,q3⟩:=h3
 subst ex;subst ev
 obtain⟨rfl,_⟩:=rd2
 cases rx
 obtain⟨qk,rfl,hq⟩:=pY rd3 hk
 cases ry
 obtain⟨ns,ob,hr,hb⟩:=S3.mu.box a _ hb3
 obtain⟨xs,dp,dd,len⟩:=ql I3 hr hb
 have rd1':Rp X.K bi H3 d uv:=Rp.ext S1.mu (e2.trans e3) rd1
 refine wpAny_setItem_heap (hsz:=len) (tupleKind_room_in1 ∅) (iy I3 hq) dd fun h' dd' sb=>?_
 have hl:(i5 kvs k d).length<=sizeLine:=by have:=yK kvs k d;rw[sizeLine_eq];omega
 obtain⟨o',g1,g2⟩:=Bc (X:=X) (Z:=bi) (H:=H3) hl (dp.put hq rd1' rv) dd'
 have exx:=xk (K:=X.K) (Z:=bi) (c:=.dict (i5 kvs k d)) (o':=o') hr
 exact⟨σ,upd H3 a (.raw o'),BL (ob:=.raw o') I3 (by rw[hr];exact True.intro) sb ⟨o',g1⟩ g1,kn σ ρ _ _ (e1.trans (e2.trans (e3.trans exx))) ⟨S3.mu.GC ns hr g2,S3.rho.ext S3.mu exx⟩ q3⟩
noncomputable def EA:Box->Nat
 |.set ks=>ks.length
 |.dict kvs=>kvs.length
theorem wg{prog:Program}{w:World}{K:Type}[DecidableEq K](knd:HeapKind prog w K)(d:Addr)(hd:(d==sysModules)=false) :
  MeetsIn prog w (Builtin.«dict.__len__» ⟨[.ref d],[]⟩) (fun _ R s=>∃kvs,s.heap.DictOfH knd d kvs/\R (.ok (.ret (.int kvs.length s.toks))) {s with toks:=s.toks+1}):=
 .of_wp fun A R s ⟨kvs,hm,h⟩=>by
  obtain⟨o,es,ep,ho,hc,hdat,hk,hp,hn⟩:=hm
  show wpAny _ _ (dictSize d>>=_) _ _ s
  unfold dictSize
  refine wpAny_bind (wpAny_bind (wpAny_dictEntries ho hdat (wpAny_pure ?_)))
  show wpAny _ _ (Builtin.Dict.pendingCount d>>=_) _ _ s
  refine wpAny_bind (wpAny_pendingCount_other hd ?_)
  refine wpAny_ret_mkInt ?_
  have:es.size=kvs.length:=size_of_entries hk
  rw[Nat.add_zero,this];exact h
theorem yB{prog:Program}{w:World}{K:Type}[DecidableEq K]{knd:HeapKind prog w K}{A:Around}{E:Value->Shared->Prop}{s:Shared}{d:Addr}{kvs:List (K×Addr×Value)}{Q:Value->Shared->Prop}(hd:(d==sysModules)=false)(hm:s.heap.DictOfH knd d kvs)(hfit:(kvs.length:Int)<2 ^ 63)
  (h:Q (.int kvs.length (s.toks+1)) {s with toks:=s.toks+1+1}):wpAny (model prog w) A (call (.builtin "len") [.ref d]) Q E s:=by
 refine Calls.call_function_entry kind_len plain_len entry_len (args_len1 _) ?_
 unfold Builtin.«len»
 refine wpAny_bind (m:=oneArg "len" _) (wpAny_pure ?_)
 refine wpAny_bind (m:=callSpecial? (.ref d) (Str.ofString "__len__")) (wpAny_callSpecial?_slot (name:=Str.ofString "__len__") hm.typeIs PySem.F.slot_dict_len
  (call_meetsIn PySem.F.slot_dict_len hm.typeIs PySem.F.entry_dict_len (PySem.F.args_dict_len_1 _) (wg knd d hd) ⟨kvs,hm,?_⟩))
 show wpAny _ _ _ _ _ {s with toks:=s.toks+1}
 refine wpAny_bind (wpAny_holding (wpAny_pure ?_))
 refine wpAny_bind (wpAny_letGo ?_)
 show wpAny _ _ (if ((kvs.length:Nat):Int)<0 then _ else _) _ _ _
 rw[if_neg ∅]
 show wpAny _ _ (if ((kvs.length:Nat):Int) ≥ 2 ^ 63 then _ else _) _ _ _
 rw[if_neg ∅]
 exact wpAny_bind (wpAny_mkInt (wpAny_pure ⟨_,rfl,h⟩))
noncomputable def IG:List D->Mu->DK->Prop:=fun xs Z Q=>∃a c,xs=[.b a]/\Z.b a=some c/\Ly c/\Q (.v (.int (EA c:Nat))) Z
noncomputable def Q1(K:PySem.W.Frag)(r:List D->Mu->DK->Prop):List V->Hp->VK->Prop:=fun us H Q=>∃ds Z Qd,bJ K Z H/\j7 K Z H ds us/\r ds Z Qd/\∀d u U H',Ext K Z H U H'->bJ K U H'->RpD K U H' d u->Qd d U->Q u H'
theorem Ol{K:PySem.W.Frag}{r:List D->Mu->DK->Prop}:pf K (Q1 K r) r:=fun xs us H Z Qd Q ok rs h k=>⟨xs,Z,Qd,ok,rs,h,k⟩
theorem IL:kE X (.builtin "len") (Q1 X.K IG):=by
 intro pins s σ H xs us Q I r h
 obtain⟨ds,Z,Qd,ok,rs,⟨a,c,rfl,hc,few,q⟩,kk⟩:=h
 cases rs with
 |cons r1 r2=>
  cases r2
  obtain⟨rfl,_⟩:=r1
  obtain⟨u,rfl,rx⟩:=vals1 r
  cases rx
  obtain⟨ns,ob,hr,hb⟩:=ok.box a c hc
  have fin:∀(t:Tok) s',Inv X pins σ H s'->EP X pins σ Q (.int (EA c:Nat) t) s':=fun t s' I'=>⟨.int (EA c:Nat),H,I',⟨t,rfl⟩,kk (.v (.int (EA c:Nat))) _ Z H .refl ok (Rp.int _) q⟩
  cases c with
  |set ks=>
   obtain⟨h1,L,ep,t,h2,h3,h4,h5,_,_⟩:=hb
   have hs:(L.map (·.2)).toArray.size=ks.length:=by rw[size_toArray,length_map,h5]
   have few':ks.length<=9800:=few
   refine PySem.call_len_set (show s.heap.get? a=some ob from I.hok a _ hr) h1 h2 (ST.fits_of h3 ∅) (by rw[hs];exact Int.lt_of_le_of_lt (by exact_mod_cast few':(ks.length:Int)<=9800) ⋯) ?_
   rw[hs]
   exact fin _ _ (I.kept (h':=s.heap) (t':=s.toks+1+1) fun _ _ e=>e)
  |dict kvs=>
   obtain⟨xs,dp,dd,len⟩:=ql I hr hb
   have few':kvs.length<=9800:=few
   refine yB ns dd (by rw[<- dp.length];exact Int.lt_of_le_of_lt (by exact_mod_cast few':(kvs.length:Int)<=9800) ⋯) ?_
   rw[<- dp.length]
   exact fin _ _ (I.kept (h':=s.heap) (t':=s.toks+1+1) fun _ _ e=>e)
theorem HV{es:List Expr}{t:DTA}(hg:Gl X "len")(hm:X.mg "len"=none)(ha:DA X (e::es) t)
  (he:starEach (e::es) X.env=(false,eval e X.env)::starEach es X.env:=by rfl) (hpl:(backTo pos (starEach es X.env)).any (·.1)=false:=by rfl):DE X (.Call (.Name "len" p) (e::es) [] pos) (dCB IG t):=
 lK IL Ol hg hm PySem.boot_len ha ⋯ ⋯ he hpl
end
theorem qS{prog:Program}{w:World}{A:Around}{R:Result->Shared->Prop}{s:Shared}{kx vx target iter:Expr}{ifs:List Expr}{scope:Scope}{pos:Pos}{it:Value}{D:Addr}{env:Env}(I:Nat->Shared->Prop)
  (turn:∀n s,I n s->wpAny (model prog w) A (pyNext it) (fun r ca=>match r with
   |none=>R (.ok .next) ca
   |some v=>wpAny (model prog w) A (letOwnedTupleGo target it v) (fun _ s'=>wpAny (model prog w) A (assign target env v) (fun _ gl=>
     wpAny (model prog w) A (forIn ifs true fun c r=>if r=true then do let ok <- isTrue c env (eval c env);pure (ForInStep.yield ok) else pure (ForInStep.yield r)) (fun ok bv=>
      if ok=true then wpAny (model prog w) A (eval kx env) (fun kv nw=>wpAny (model prog w) A (eval vx env) (fun vv o0=>
       wpAny (model prog w) A (dictSet D kv vv) (fun _ wp=>∃m,m<n/\I m wp) (fun _ _=>False) o0) (fun _ _=>False) nw) (fun _ _=>False) bv
      else ∃m,m<n/\I m bv) (fun _ _=>False) gl) (fun _ _=>False) s') (fun _ _=>False) ca) (fun _ _=>False) s)
  (n:Nat) (h:I n s) :
  codeAny (model prog w) A (.compLoop (.DictComp kx vx [⟨target,iter,ifs,0⟩] scope pos) 0 it (.ref D) env) R s:=by
 refine codeAny_loop rfl I (fun n s hI=>?_) n h
 show wpAny _ A ((compTurn (.DictComp kx vx [⟨target,iter,ifs,0⟩] scope pos) 0 it (.ref D) env).onRaise (fun x=>do noteFrame x env;theTreesLotGoes x)) _ _ s
 refine wpAny_noted ?_
 rw[compTurn_dict]
 refine wpAny_bind (wpAny_standAt (wpAny_bind (wpAny_mono (turn n s hI) (fun r ca dL=>?_) fun _ _ h'=>h'.elim)))
 cases r with
 |none=>exact wpAny_pure dL
 |some v=>
  refine wpAny_bind (wpAny_mono dL (fun _ s' h'=>?_) fun _ _ h'=>h'.elim)
  refine wpAny_bind (wpAny_mono h' (fun _ gl mt=>wpAny_bind (wpAny_mono mt (fun ok bv pd=>?_) fun _ _ h'=>h'.elim)) fun _ _ h'=>h'.elim)
  cases ok with
  |false=>exact wpAny_pure ⟨rfl,pd⟩
  |true=>
   exact wpAny_bind (wpAny_bind (wpAny_mono pd (fun kv nw tt=>wpAny_bind (wpAny_holding (wpAny_mono tt (fun vv o0 ul=>wpAny_bind (wpAny_standAt (wpAny_holding (wpAny_mono ul (fun _ wp wP=>wpAny_pure ⟨rfl,wP⟩) fun _ _ h'=>h'.elim)))) fun _ _ h'=>h'.elim))) fun _ _ h'=>h'.elim))
noncomputable def putAll{α:Type}(l:List (List Int×α)):List (List Int×α):=l.foldl (fun a x=>i5 a x.1 x.2) []
theorem putAll_snoc{α:Type}(l:List (List Int×α))(k:List Int)(y:α):putAll (l++[(k,y)])=i5 (putAll l) k y:=by unfold putAll;rw[List.foldl_append];rfl
theorem x5{α:Type}(l:List (List Int×α)):(putAll l).length<=l.length:=by
 have:∀(l a:List (List Int×α)),(l.foldl (fun a x=>i5 a x.1 x.2) a).length<=a.length+l.length:=fun l=>by
  induction l with
  |nil=>intro a;exact le_refl _
  |cons x l ih=>
   intro a
   rw[List.foldl_cons,length_cons]
   have h1:=ih (i5 a x.1 x.2)
   have h2:=yK a x.1 x.2
   omega
 have h:=this l []
 rw[length_nil,Nat.zero_add] at h
 exact h
theorem Fl{β:Type}{xs:List PyData}{f:PyData->Option β}{i:Nat}{d:PyData}(h:xs[i]? = some d):(xs.take (i+1)).filterMap f=(xs.take i).filterMap f++(f d).toList:=by
 obtain⟨hi,e⟩:=List.getElem?_eq_some_iff.mp h
 rw[List.take_succ_eq_append_getElem hi,List.filterMap_append,e]
 cases q:f d<;>simp[q]
noncomputable def vF(cap:List (Option Nat))(src:DTI)(g:DTG)(c:DTT)(tk tv:DTE):DTE:=fun ρ Z Q=>src ρ Z fun xs ad=>xs.length<=1000/\∃f:PyData->Option (List Int×PyData),
 (∀x∈xs,∀U:Mu,(∀a ds,ad a=some ds->U a=some ds)->g (.v x) (bu cap ρ) U fun ci am=>Le (bu cap ρ) ci/\c ci am fun b bi=>
  if b=true then tk ci bi fun dk db=>tv ci db fun dv jp=>jp=U/\∃k y,nR dk=some k/\dv = .v y/\f x=some (k,y) else bi=U/\f x=none)/\∀p,ad.b p=none->Q (.b p) (bo ad p (.dict (putAll (xs.filterMap f))))
theorem Ho{cap:List (Option Nat)}{src:DTI}{g:DTG}{c:DTT}{tk tv:DTE}{ρ:Rho}{Z:Mu}{Q:DK}:vF cap src g c tk tv ρ Z Q=src ρ Z fun xs ad=>xs.length<=1000/\∃f:PyData->Option (List Int×PyData),
 (∀x∈xs,∀U:Mu,(∀a ds,ad a=some ds->U a=some ds)->g (.v x) (bu cap ρ) U fun ci am=>Le (bu cap ρ) ci/\c ci am fun b bi=>
  if b=true then tk ci bi fun dk db=>tv ci db fun dv jp=>jp=U/\∃k y,nR dk=some k/\dv = .v y/\f x=some (k,y) else bi=U/\f x=none)/\∀p,ad.b p=none->Q (.b p) (bo ad p (.dict (putAll (xs.filterMap f)))):=rfl
theorem Hb{X:Cx}{pos2:Pos}{use:Option (Value->Sem Unit)}{QQ:Value->Shared->Prop}{pins:List (Addr×Obj)}{s:Shared}{σ:St}{H:Hp}{ρ:Rho}{Z:Mu}{Qd:DK}{N':List Str}{scope:Scope}{cl:List (Str×Addr)}{kx vx iter tg:Expr}{ifs:List Expr}{pos:Pos}{cap:List (Option Nat)}{src:DTI}{g:DTG}{c:DTT}{tk tv:DTE}(hc:X.calm=X.calm)(hu:X.A.units+64<cLine)
  (hi:DI X tg iter src) (hg:∀fp bv ce,DG (aG X N' scope cl fp bv ce) tg g) (hif:∀fp bv ce,Er (aG X N' scope cl fp bv ce) ifs c) (hkx:∀fp bv ce,DE (aG X N' scope cl fp bv ce) kx tk) (hvx:∀fp bv ce,DE (aG X N' scope cl fp bv ce) vx tv)
  (hclos:closureFor scope X.env=pure cl) (hcell:∀y∈scope.names,y.2≠.cell) (hkind:scope.kind = .function) (hnames:∀y∈scope.names,y.2 = .local->scope.names.lookup y.1=some .local)
  (hcl:∀x a,cl.lookup x=some a->X.env.cells.lookup x=some a) (hhas:∀x,(relabel scope X.env).names.lookup x=some .cell\/(relabel scope X.env).names.lookup x=some .free->∃a,cl.lookup x=some a)
  (hlen:cap.length=N'.length) (hcap:∀(i j:Nat) (x:Str),cap[i]? = some (some j)->N'[i]? = some x->X.N[j]? = some x/\Vis X.env.scope x/\X.env.kindOf x≠some .local/\((relabel scope X.env).names.lookup x=some .cell\/(relabel scope X.env).names.lookup x=some .free))
  (hs:∀x,foldedSetIterable iter X.env x=pure x) (I:Inv X pins σ H s) (S:St0 X.K H ρ Z σ) (h:vF cap src g c tk tv ρ Z Qd)
  (hend:∀(s4:Shared) (Hc:Hp) (C pa:Addr) (m:Str->Option Value) (re:Mu),s4.heap.Ns C m->qT X pins Hc C->(∀h',Heap.SameBut C s4.heap h'->Inv X pins σ Hc {s4 with heap:=h'}) ->
   Ext X.K Z H re Hc->St0 X.K Hc ρ re σ->RpD X.K re Hc (.b pa) (.ref pa)->Qd (.b pa) re->compPost (model X.prog X.w) X.A X.xe use QQ (.ref pa) C (.ok .next) s4) :
  wpAny (model X.prog X.w) X.A (comprehension (.DictComp kx vx [⟨tg,iter,ifs,0⟩] scope pos) scope X.env pos2 newDict false (eval iter X.env) use) QQ X.xe s:=by
 obtain⟨wi,pw,li⟩:=hi
 refine wpAny_comprehension_free rfl hs hclos hkind hnames (thn (pw pins s σ H _ I (li σ H ρ Z _ (fun J H1=>∃xs ad,Ext X.K Z H ad H1/\St0 X.K H1 ρ ad σ/\Jw X.K J xs ad H1/\xs.length<=1000/\∃f:PyData->Option (List Int×PyData),
   (∀x∈xs,∀U:Mu,(∀a ds,ad a=some ds->U a=some ds)->g (.v x) (bu cap ρ) U fun ci am=>Le (bu cap ρ) ci/\c ci am fun b bi=>
    if b=true then tk ci bi fun dk db=>tv ci db fun dv jp=>jp=U/\∃k y,nR dk=some k/\dv = .v y/\f x=some (k,y) else bi=U/\f x=none)/\∀p,ad.b p=none->Qd (.b p) (bo ad p (.dict (putAll (xs.filterMap f))))) S h (fun xs ad H1 J e1 S1 it q=>⟨xs,ad,e1,S1,it,q⟩)))
  fun v s1 h1=>thn h1 fun itv s2 h2=>?_)
 obtain⟨it,fp,tn,J,H2,rfl,I2,T,st2,f2,xs,ad,e1,S1,itok,hxs,f,body,fin⟩:=h2
 refine wpAny_newObj_type (wpAny_newFunctionEnv hcell (by intro y hy;simp at hy) (fun dL ii io=>?_) hkind)
 dsimp only at ii io ⊢
 have hfree2:H2 s2.heap.objs.size=none:=I2.hok.fresh (le_refl _)
 have hK2:X.K.lookup s2.heap.objs.size=none:=by
  cases z:X.K.lookup s2.heap.objs.size with
  |none=>rfl
  |some o=>exact absurd (Heap.lt_size (I2.kIn _ _ z)) (lt_irrefl _)
 have I3:Inv X pins σ (upd H2 s2.heap.objs.size (.raw {cls:=.type "dict",dict:=none,data:=.dict #[]})) {s2 with heap:=s2.heap.push {cls:=.type "dict",dict:=none,data:=.dict #[]}}:=
  I2.laid (t':=s2.toks) (fun b u e=>Heap.get?_push_of_some _ e) (le_refl _) (Heap.get?_push_size _ rfl)
 generalize hH:s2.heap.push {cls:=.type "dict",dict:=none,data:=.dict #[]} = hp3 at ii io I3 ⊢
 have hsz3:hp3.objs.size=s2.heap.objs.size+1:=by rw[<- hH,Heap.size_push]
 have kept3:∀b o,hp3.get? b=some o->dL.get? b=some o:=fun b o e=>io.extBut b o (ne_of_lt (Heap.lt_size e)) (Heap.get?_push_of_some _ e)
 have old3:∀b o,s2.heap.get? b=some o->hp3.get? b=some o:=fun b o e=>by rw[<- hH];exact Heap.get?_push_of_some _ e
 have fplt:∀b∈fp,b<s2.heap.objs.size:=fun b hb=>by obtain⟨o,e,_⟩:=T.obj 0 _ st2 b hb;exact Heap.lt_size e
 have fpst:∀b∈fp,b ∉ frs X.stack:=fun b hb hz=>by
  rcases List.mem_cons.mp (I2.lz b hz) with e|e
  ·exact (f2 b hb).2.1 e
  ·exact (f2 b hb).2.2.1 e
 obtain⟨s3,hs3⟩:∃s3:Shared,s3={s2 with heap:=hp3}:=⟨_,rfl⟩
 obtain⟨H3,hH3⟩:∃H3:Hp,H3=upd H2 s2.heap.objs.size (.raw {cls:=.type "dict",dict:=none,data:=.dict #[]}):=⟨_,rfl⟩
 have heap3:s3.heap=hp3:=by rw[hs3]
 rw[<- hH3] at I3
 have I3':Inv X pins σ H3 s3:=by rw[hs3];exact I3
 have hloc:H3 hp3.objs.size=none:=by have:=I3'.hok.fresh (a:=hp3.objs.size) (by rw[heap3];exact le_refl _);exact this
 have okc:(aG X N' scope cl fp s3 H3).Ok:=by
  refine⟨I3.ok.mod,?_,I3.ok.glob,I3.ok.blt,le_refl _,fun x y a h1 h2=>I3.ok.inj x y a (hcl x a h1) (hcl y a h2),fun x hx=>hhas x hx,fun x a h=>(nomatch h),I3.ok.hd,I3.ok.qt,I3.ok.frames,.inl rfl,fun b hb=>⟨?_,fun x a h=>(f2 b hb).2.2.2.2.1 x a (hcl x a h)⟩,
   I3'.bs,le_trans I3.ok.bsz I3'.sz,fun b o e hb=>?_,fun b hb=>fpst b hb,I3'.stack,I3'.tL⟩
  ·exact hkind
  ·show b≠s3.heap.objs.size
   rw[heap3,hsz3]
   exact ne_of_lt (lt_succ_of_lt (fplt b hb))
  ·rcases (f2 b hb).2.2.2.1 with z|z
   ·exact I3.ok.EV b o e z
   ·exact absurd (lt_of_lt_of_le (Heap.lt_size (I3.ok.bs b o e).1) z) (lt_irrefl _)
 have I4:Inv (aG X N' scope cl fp s3 H3) [] (bu cap σ) H3 {s2 with heap:=dL,toks:=s2.toks+([]:List (Str×Value)).length}:=by
  refine⟨okc,by show s2.os=s3.os;rw[hs3],I3.bare,Un.kept (by show ∀b o,s3.heap.get? b=some o->_;rw[heap3];exact kept3),⟨_,(by show dL.Ns s3.heap.objs.size _;rw[heap3];exact ii),fun i x v e1 e2 e3=>?_⟩,fun x a h=>?_,(by show H3 s3.heap.objs.size=none;rw[heap3];exact hloc),fun x a h=>I3.mv x a (hcl x a h),fun p hp=>?_,I3.hok.kept kept3,?_⟩
  ·obtain⟨j,h1,h2⟩:=oT e2
   obtain⟨hN,hv,hnl,hk⟩:=hcap i j x h1 e1
   obtain⟨m,_,hl⟩:=I3.loc
   obtain⟨u,r,lk⟩:=hl j x v hN h2 hv
   refine⟨u,r,.inr ⟨hk,?_⟩⟩
   obtain⟨a,ha⟩:=hhas x hk
   rcases lk with ⟨z,_⟩|⟨_,a',z1,z2⟩
   ·exact absurd z hnl
   ·have:a'=a:=by have q:=hcl x a ha;rw[z1] at q;exact Option.some.inj q
    subst this
    obtain⟨o,ho,hd⟩:=z2
    exact⟨a',ha,o,kept3 _ _ ho,hd⟩
  ·obtain⟨v,o,ho,hd⟩:=I3.cell x a (hcl x a h)
   exact⟨v,o,kept3 _ _ ho,hd⟩
  ·have hp':p∈X.pn++pins:=mem_append_left _ (by simpa using (show p∈X.pn++[] from hp))
   obtain⟨z1,z2,z3,z4,z5⟩:=I3'.pin p hp'
   refine⟨kept3 _ _ (by rw[<- heap3];exact z1),z2,(show p.1≠s3.heap.objs.size from ne_of_lt (Heap.lt_size z1)),fun z=>?_,z5⟩
   rcases List.mem_cons.mp (I3'.lz p.1 z) with e|e
   ·exact z3 e
   ·exact z4 e
  ·show (bu cap σ).length=N'.length
   unfold bu
   rw[length_map]
   exact hlen
 have ls:ad.b s2.heap.objs.size=none:=S1.mu.Io hfree2
 have sub1:∀(ys:Box) a ds,ad a=some ds->bo ad s2.heap.objs.size ys a=some ds:=fun ys a ds e=>e
 have loop:codeAny (model X.prog X.w) X.A (.compLoop (.DictComp kx vx [⟨tg,iter,ifs,0⟩] scope pos) 0 (.ref it) (.ref s2.heap.objs.size) (aG X N' scope cl fp s3 H3).env)
   (compPost (model X.prog X.w) X.A X.xe use QQ (.ref s2.heap.objs.size) hp3.objs.size) {s2 with heap:=dL,toks:=s2.toks+([]:List (Str×Value)).length}:=by
  refine qS (fun n s'=>∃(i:Nat) (dl:St) (Hc:Hp),n=xs.length-i/\i<=xs.length/\Inv (aG X N' scope cl fp s3 H3) [] dl Hc s'/\tn i s'.heap/\(∀b∈fp,Hc b=none) /\
   St0 X.K Hc (bu cap ρ) (bo ad s2.heap.objs.size (.dict (putAll ((xs.take i).filterMap f)))) dl/\Ext X.K ad H2 (bo ad s2.heap.objs.size (.dict (putAll ((xs.take i).filterMap f)))) Hc) ?_ xs.length
   ⟨0,bu cap σ,H3,by simp,zero_le _,I4,T.keep 0 _ _ st2 (fun b hb o e=>kept3 b o (old3 b o e)),fun b hb=>?_,?_,?_⟩
  ·rintro n s' ⟨i,dl,Hc,rfl,hi,Ic,tc,frc,Sc,Ec⟩
   have stat:∀{Hd:Hp},(∀b∈fp,Hd b=none)->∀b∈fp,qT (aG X N' scope cl fp s3 H3) [] Hd b:=fun hn b hb=>
    ⟨hn b hb,(okc.exf b hb).1,fpst b hb,.inl hb,fun x a h=>(okc.exf b hb).2 x a h,fun p hp=>(f2 b hb).2.2.2.2.2 p (mem_append_left _ (by simpa using (show p∈X.pn++[] from hp)))⟩
   obtain⟨go,stop⟩:=itok _ Hc Ec Sc.mu i
   by_cases hlt:i<xs.length
   ·obtain⟨g1,y1⟩:=go hlt
    refine thn (T.item (aG X N' scope cl fp s3 H3) rfl rfl rfl (fun z=>z) i [] s' dl Hc (fun _ _=>False) Ic (stat frc) tc g1) fun r s4 hq0=>?_
    obtain⟨u,hr,h4⟩:=hq0
    subst hr
    refine thn h4 fun _ s5 hq0=>?_
    obtain⟨x,H5,I5,r5,y5,st5,fr5⟩:=hq0
    obtain⟨d,hd,sm,rd⟩:=y1 x H5 y5
    have I5':=I5.pinned (stat fr5) (T.obj _ _ st5)
    have e5:Ext X.K _ Hc _ H5:=.of_same (Z:=bo ad s2.heap.objs.size (.dict (putAll ((xs.take i).filterMap f)))) sm
    have S5:St0 X.K H5 (bu cap ρ) (bo ad s2.heap.objs.size (.dict (putAll ((xs.take i).filterMap f)))) dl:=⟨Sc.mu.FH e5 sm,Sc.rho.ext Sc.mu e5⟩
    obtain⟨gt,pg,lg⟩:=hg fp s3 H3
    have hmem:d∈xs:=mem_of_getElem? hd
    refine thn (pg _ s5 dl H5 x u (fun bn H'=>∃be U,Ext X.K (bo ad s2.heap.objs.size (.dict (putAll ((xs.take i).filterMap f)))) H5 U H'/\St0 X.K H' be U bn/\Le (bu cap ρ) be/\c be U fun b bi=>
      if b=true then tk be bi fun dk db=>tv be db fun dv jp=>jp=bo ad s2.heap.objs.size (.dict (putAll ((xs.take i).filterMap f)))/\∃k y,nR dk=some k/\dv = .v y/\f d=some (k,y) else bi=bo ad s2.heap.objs.size (.dict (putAll ((xs.take i).filterMap f)))/\f d=none) I5' r5
     (lg dl H5 (bu cap ρ) _ (.v d) x _ _ S5 rd (body d hmem _ (sub1 _)) fun bn be U H' e' S' q=>⟨be,U,e',S',q⟩)) fun _ s6 ⟨im,H6,I6,kw,sK,e6,S6,le6,q6⟩=>?_
    refine thn (hif fp s3 H3 _ s6 im H6 kw sK _ (fun b H'=>∃U,Ext X.K sK H6 U H'/\St0 X.K H' kw U im/\if b=true then tk kw U fun dk db=>tv kw db fun dv jp=>jp=bo ad s2.heap.objs.size (.dict (putAll ((xs.take i).filterMap f)))/\∃k y,nR dk=some k/\dv = .v y/\f d=some (k,y) else U=bo ad s2.heap.objs.size (.dict (putAll ((xs.take i).filterMap f)))/\f d=none)
     I6 S6 q6 fun b U H' e' S' q=>⟨U,e',S',q⟩) fun b s7 ⟨H7,I7,po,e7,S7,q7⟩=>?_
    have again:∀{H9:Hp} {s9:Shared},Inv (aG X N' scope cl fp s3 H3) ([]++qB fp s5.heap) im H9 s9->bJ X.K (bo ad s2.heap.objs.size (.dict (putAll ((xs.take (i+1)).filterMap f)))) H9->iQ X.K (bo ad s2.heap.objs.size (.dict (putAll ((xs.take (i+1)).filterMap f)))) H9 (bu cap ρ) im ->
      Ext X.K ad H2 (bo ad s2.heap.objs.size (.dict (putAll ((xs.take (i+1)).filterMap f)))) H9->∃m,m<xs.length-i/\∃(i:Nat) (dl:St) (Hc:Hp),m=xs.length-i/\i<=xs.length/\Inv (aG X N' scope cl fp s3 H3) [] dl Hc s9/\tn i s9.heap/\(∀b∈fp,Hc b=none) /\
       St0 X.K Hc (bu cap ρ) (bo ad s2.heap.objs.size (.dict (putAll ((xs.take i).filterMap f)))) dl/\Ext X.K ad H2 (bo ad s2.heap.objs.size (.dict (putAll ((xs.take i).filterMap f)))) Hc:=fun {H9 s9} I9 m9 r9 e9=>by
     refine⟨xs.length-(i+1),∅,i+1,im,H9,rfl,hlt,I9.eV,T.keep _ _ _ st5 fun b hb o e=>(I9.pin (b,o) (mem_append_right _ (mem_append_right _ (bK hb e)))).1,fun b hb=>?_,⟨m9,r9⟩,e9⟩
     obtain⟨o,e,_⟩:=T.obj _ _ st5 b hb
     exact (I9.pin (b,o) (mem_append_right _ (mem_append_right _ (bK hb e)))).2.1
    cases b with
    |false=>
     have q8:po=bo ad s2.heap.objs.size (.dict (putAll ((xs.take i).filterMap f)))/\f d=none:=by simpa using q7
     refine zL ?_
     have et:(xs.take (i+1)).filterMap f=(xs.take i).filterMap f:=by rw[Fl hd,q8.2];simp
     have sn:bo ad s2.heap.objs.size (.dict (putAll ((xs.take (i+1)).filterMap f)))=po:=by rw[et,q8.1]
     refine again I7 (by rw[sn];exact S7.mu) (by rw[sn];exact S7.rho.le le6) ?_
     rw[sn]
     exact Ec.trans (e5.trans (e6.trans e7))
    |true=>
     refine zo ?_
     have q8:tk kw po fun dk db=>tv kw db fun dv jp=>jp=bo ad s2.heap.objs.size (.dict (putAll ((xs.take i).filterMap f)))/\∃k y,nR dk=some k/\dv = .v y/\f d=some (k,y):=by simpa using q7
     refine thn ((hkx fp s3 H3).use I7 S7 q8) fun v s8 hq0=>?_
     obtain⟨dk,uk,pi,H8,I8,rk,e8,S8,rdk,q9⟩:=hq0
     refine thn ((hvx fp s3 H3).use I8 S8 q9) fun v' s9 hq0=>?_
     obtain⟨dv,uv,tx,H9,I9,rv,e9,S9,rdv,sn,kk,y,hk,ev,fy⟩:=hq0
     subst sn;subst ev
     obtain⟨qk,rfl,hq8⟩:=pY rdk hk
     have hq:SqT X.K H9 qk (kk.map V.int):=mJ S8.mu e9 hq8
     cases rk
     have hle:((xs.take i).filterMap f).length<=1000:=le_trans (List.length_filterMap_le _ _) (le_trans (by rw[length_take];exact Nat.min_le_right _ _) hxs)
     obtain⟨ns,ob,hr,hb⟩:=S9.mu.box s2.heap.objs.size _ ba
     obtain⟨es,dp,dd,len⟩:=ql I9 hr hb
     refine wpAny_dictSet_heap (hsz:=len) (show X.A.units<cLine by omega) (iy I9 hq) dd fun h' dd' sb=>?_
     have et:(xs.take (i+1)).filterMap f=(xs.take i).filterMap f++[(kk,y)]:=by rw[Fl hd,fy];rfl
     have ep:putAll ((xs.take (i+1)).filterMap f)=i5 (putAll ((xs.take i).filterMap f)) kk y:=by rw[et,putAll_snoc]
     have hl:(i5 (putAll ((xs.take i).filterMap f)) kk y).length<=sizeLine:=by
      have h1:=yK (putAll ((xs.take i).filterMap f)) kk y
      have h2:=x5 ((xs.take i).filterMap f)
      rw[sizeLine_eq];omega
     obtain⟨o',g1,g2⟩:=Bc (X:=X) (Z:=bo ad s2.heap.objs.size (.dict (putAll ((xs.take i).filterMap f)))) (H:=H9) hl (dp.put hq rdv rv) dd'
     have exx:=xk (K:=X.K) (Z:=bo ad s2.heap.objs.size (.dict (putAll ((xs.take i).filterMap f)))) (c:=.dict (i5 (putAll ((xs.take i).filterMap f)) kk y)) (o':=o') hr
     have mset:bo (bo ad s2.heap.objs.size (.dict (putAll ((xs.take i).filterMap f)))) s2.heap.objs.size (.dict (i5 (putAll ((xs.take i).filterMap f)) kk y))=bo ad s2.heap.objs.size (.dict (putAll ((xs.take (i+1)).filterMap f))):=by rw[ep];exact JS
     have m9:=S9.mu.GC ns hr g2
     rw[mset] at exx m9
     refine again (BL (ob:=.raw o') I9 (by rw[hr];exact True.intro) sb ⟨o',g1⟩ g1) m9 ?_ ?_
     ·exact (S9.rho.le le6).ext S9.mu exx
     ·exact Ec.trans (e5.trans (e6.trans (e7.trans (e8.trans (e9.trans exx)))))
   ·have ei:i=xs.length:=by omega
    subst ei
    refine thn (T.done (aG X N' scope cl fp s3 H3) rfl rfl rfl (fun z=>z) _ [] s' dl Hc (fun _ _=>False) Ic (stat frc) tc (stop rfl)) fun r s4 hq0=>?_
    obtain⟨hr,I5⟩:=hq0
    subst hr
    rw[take_length] at Sc Ec
    obtain⟨m,hn,_⟩:=I5.loc
    have hcC:Hc hp3.objs.size=none:=by have z:Hc s3.heap.objs.size=none:=I5.free;rw[heap3] at z;exact z
    refine hend s4 Hc hp3.objs.size s2.heap.objs.size m _ (by have z:s4.heap.Ns s3.heap.objs.size m:=hn;rw[heap3] at z;exact z) (I2.G3 (by rw[hsz3];exact Nat.le_succ _) hcC) (fun h' hs'=>?_) (e1.trans Ec) ⟨Sc.mu,S1.rho.ext S1.mu Ec⟩ ⟨rfl,_,ba⟩ (fin _ ls)
    have kp:∀b o,b<s2.heap.objs.size->s4.heap.get? b=some o->h'.get? b=some o:=fun b o hb e=>hs'.extBut b o (by rw[hsz3];exact ne_of_lt (lt_succ_of_lt hb)) e
    have hok':HOk X.prog X.w Hc h':=fun b ob e=>by
     refine (I5.hok b ob e).qX (fun cc v hcc q=>hs'.extBut cc v ?_ q) (fun _ q=>q) fun _ _ q=>q
     rintro rfl
     rcases hcc with z|z
     ·rw[<- z,hcC] at e;cases e
     ·rw[hcC] at z;cases z
    have u1:Un (frs X.stack) fp H2 H3 s2.heap s3.heap:=by rw[heap3,hH3];exact Un.laid old3 (le_refl _) hfree2
    have u2:Un (frs X.stack) fp H3 Hc s3.heap s4.heap:=I5.base
    exact I2.AK (ch:=fp) (by show s4.os=s2.os;have z:s4.os=s3.os:=I5.os;rw[z,hs3]) (Un.after (u1.trans u2) kp) hok' I5.bare fun b hb=>⟨(f2 b hb).2.2.2.1,(f2 b hb).2.1,(f2 b hb).2.2.2.2.1,(f2 b hb).2.2.2.2.2⟩
  ·have z:b≠s2.heap.objs.size:=ne_of_lt (fplt b hb)
   rw[hH3,aS z]
   exact (f2 b hb).1
  ·have ex:=jQ (K:=X.K) (o:={cls:=.type "dict",dict:=none,data:=.dict #[]}) (c:=.dict []) S1.mu hfree2
   rw[hH3]
   exact⟨S1.mu.Hj (Hg I2) hfree2 (A2 rfl),(S1.rho.ext S1.mu ex).cap⟩
  ·rw[hH3]
   exact jQ (K:=X.K) (o:={cls:=.type "dict",dict:=none,data:=.dict #[]}) (c:=.dict []) S1.mu hfree2
 have envE:(aG X N' scope cl fp s3 H3).env=compEnvC scope cl hp3.objs.size X.env:=by show compEnvC scope cl s3.heap.objs.size X.env=_;rw[heap3]
 rw[envE] at loop
 exact codeAny_compStart_dict loop (T.self X.A 0 _ _ _ (T.keep 0 _ _ st2 (fun b hb o e=>kept3 b o (old3 b o e))) loop)
theorem Hz{X:Cx}{i:Nat}{x:Str}{pos' spos:Pos}{N':List Str}{scope:Scope}{cl:List (Str×Addr)}{kx vx iter tg:Expr}{ifs:List Expr}{pos:Pos}{cap:List (Option Nat)}{src:DTI}{g:DTG}{c:DTT}{tk tv:DTE}(hN:X.N.Nodup)(hix:X.N[i]? = some x)(hx:X.env.scope.names.lookup x=some .local)(hc:X.calm=X.calm)(hu:X.A.units+64<cLine)
  (hi:DI X tg iter src) (hg:∀fp bv ce,DG (aG X N' scope cl fp bv ce) tg g) (hif:∀fp bv ce,Er (aG X N' scope cl fp bv ce) ifs c) (hkx:∀fp bv ce,DE (aG X N' scope cl fp bv ce) kx tk) (hvx:∀fp bv ce,DE (aG X N' scope cl fp bv ce) vx tv)
  (hclos:closureFor scope X.env=pure cl) (hcell:∀y∈scope.names,y.2≠.cell) (hkind:scope.kind = .function) (hnames:∀y∈scope.names,y.2 = .local->scope.names.lookup y.1=some .local)
  (hcl:∀x a,cl.lookup x=some a->X.env.cells.lookup x=some a) (hhas:∀x,(relabel scope X.env).names.lookup x=some .cell\/(relabel scope X.env).names.lookup x=some .free->∃a,cl.lookup x=some a)
  (hlen:cap.length=N'.length) (hcap:∀(i j:Nat) (x:Str),cap[i]? = some (some j)->N'[i]? = some x->X.N[j]? = some x/\Vis X.env.scope x/\X.env.kindOf x≠some .local/\((relabel scope X.env).names.lookup x=some .cell\/(relabel scope X.env).names.lookup x=some .free))
  (hs:∀x,foldedSetIterable iter X.env x=pure x:=by intro _;rfl)
  (hsw:swapsWith (.DictComp kx vx [⟨tg,iter,ifs,0⟩] scope pos) (some (.Name x pos')) spos.line X.env=pure true:=by rfl):DS X (.Assign [.Name x pos'] (.DictComp kx vx [⟨tg,iter,ifs,0⟩] scope pos) spos) (bc (vF cap src g c tk tv) (ao i)):=by
 refine⟨fun D σ H=>∃ρ Z Dd,St0 X.K H ρ Z σ/\bc (vF cap src g c tk tv) (ao i) Dd ρ Z/\(∀bn be U H',Ext X.K Z H U H'->St0 X.K H' be U bn->Dd.nx be U->D.nx bn H'),?_,fun σ H ρ Z Dd De S h k1 k2 k3 k4=>⟨ρ,Z,Dd,S,h,k1⟩⟩
 rintro pins s σ H D I ⟨ρ,Z,Dd,S,h,k1⟩
 rw[exec_Assign_Name_used _ _ _ _ hsw]
 refine wpAny_bind (wpAny_standAt ?_)
 show wpAny _ _ ((comprehension (.DictComp kx vx [⟨tg,iter,ifs,0⟩] scope pos) scope X.env (firstIterPos [⟨tg,iter,ifs,0⟩] pos) newDict false (eval iter X.env) (some (assign (.Name x pos') X.env))>>=fun _=>pure ())>>=_) _ _ s
 refine wpAny_bind (wpAny_bind (Hb (Qd:=fun d ad=>ao i d ρ ad Dd.nx) hc hu hi hg hif hkx hvx hclos hcell hkind hnames hcl hhas hlen hcap hs I S h fun s4 Hc C pa m re hn fC hI e1 S1 r q=>?_))
 have I4:Inv X pins σ Hc s4:=hI s4.heap (Heap.SameBut.refl _ _)
 obtain⟨oC,hoC,hdC⟩:∃o,s4.heap.get? C=some o/\∀v,o.data≠.cell v:=by
  obtain⟨o,h1,h2⟩:=ns_obj hn
  exact⟨o,h1,h2⟩
 have I5:=I4.pinned (fp:=[C]) (fun b hb=>by rw[List.mem_singleton.mp hb];exact fC) (fun b hb=>by rw[List.mem_singleton.mp hb];exact⟨oC,hoC,hdC⟩)
 show wpAny _ _ (assign (.Name x pos') X.env (.ref pa)) _ _ s4
 refine wpAny_assign_Name (mn I5 hN hix (Or.inl hx) (show RelV (.ref pa) (.ref pa) from rfl) (fun s' I'=>?_) (.inr hx))
 have keepC:s'.heap.get? C=some oC:=(I'.pin (C,oC) (mem_append_right _ (mem_append_right _ (bK (List.mem_singleton.mpr rfl) hoC)))).1
 have hn':s'.heap.Ns C m:=Iz hn (by rw[keepC,hoC])
 refine⟨m,hn',fun h' hs'=>wpAny_pure (wpAny_pure ?_)⟩
 refine⟨σ.set i (some (.ref pa)),Hc,?_,k1 _ _ _ _ e1 ⟨S1.mu,S1.rho.set (d:=.b pa) r⟩ q⟩
 refine I'.eV.AK (ch:=[C]) rfl ⟨fun b o e n hb hx=>?_,fun b o e n hb hx=>?_,fun b o e n hx=>n,fun b o e hx=>?_,fun b xs e=>e,fun b o u e=>e,fun b ps e=>⟨#[],by rw[Array.append_empty];exact e⟩⟩ ?_ I'.bare fun b hb=>?_
 ·exact hs'.extBut b o (fun z=>hx (List.mem_singleton.mpr z)) e
 ·exact⟨o.slots,hs'.extBut b o (fun z=>hx (List.mem_singleton.mpr z)) e⟩
 ·exact⟨o,hs'.extBut b o (fun z=>hx (List.mem_singleton.mpr z)) e⟩
 ·exact fun b ob e=>by
   refine (I'.hok b ob e).qX (fun cc v hcc q=>hs'.extBut cc v ?_ q) (fun _ q=>q) fun _ _ q=>q
   rintro rfl
   rcases hcc with z|z
   ·rw[<- z,fC.1] at e;cases e
   ·rw[fC.1] at z;cases z
 ·rw[List.mem_singleton.mp hb]
  exact⟨fC.2.2.2.1,fC.2.1,fC.2.2.2.2.1,fC.2.2.2.2.2⟩
noncomputable abbrev two(elt tg iter tg2 iter2:Expr)(scope:Scope)(pos:Pos):Expr:=.ListComp elt [⟨tg,iter,[],0⟩,⟨tg2,iter2,[],0⟩] scope pos
theorem zq(elt tg iter tg2 iter2:Expr)(scope:Scope)(pos:Pos)(it acc:Value)(env:Env) :
  compTurn (two elt tg iter tg2 iter2 scope pos) 0 it acc env=(standAt iter.pos>>=fun _=>pyNext it>>=fun r=>match r with
   |none=>pure (.done .next)
   |some v=>letOwnedTupleGo tg it v>>=fun _=>assign tg env v>>=fun _=>
    (eval iter2 env>>=fun x=>standAt iter2.pos>>=fun _=>foldedSetIterable iter2 env x>>=fun x=>holding [x] (pyIter x)>>=fun it2=>runOwn (.compStart (two elt tg iter tg2 iter2 scope pos) 1 it2 acc env) env>>=fun _=>
     again (.compLoop (two elt tg iter tg2 iter2 scope pos) 0 it acc env))):=by rfl
theorem zO(elt tg iter tg2 iter2:Expr)(scope:Scope)(pos:Pos)(it acc:Value)(env:Env) :
  compTurn (two elt tg iter tg2 iter2 scope pos) 1 it acc env=(standAt iter2.pos>>=fun _=>pyNext it>>=fun r=>match r with
   |none=>pure (.done .next)
   |some v=>letOwnedTupleGo tg2 it v>>=fun _=>assign tg2 env v>>=fun _=>
    (eval elt env>>=fun x=>call (.builtin "list.append") [acc,x]>>=fun _=>pure ())>>=fun _=>
     again (.compLoop (two elt tg iter tg2 iter2 scope pos) 1 it acc env)):=by rfl
section
variable {prog:Program}{w:World}{A:Around}{R:Result->Shared->Prop}{s:Shared}{elt tg iter tg2 iter2:Expr}{scope:Scope}{pos:Pos}{it acc:Value}{env:Env}
theorem B3(I:Nat->Shared->Prop)(hs:∀x,foldedSetIterable iter2 env x=pure x)
  (turn:∀n s,I n s->wpAny (model prog w) A (pyNext it) (fun r ca=>match r with
   |none=>R (.ok .next) ca
   |some v=>wpAny (model prog w) A (letOwnedTupleGo tg it v) (fun _ s'=>wpAny (model prog w) A (assign tg env v) (fun _ gl=>
     wpAny (model prog w) A (eval iter2 env) (fun x bv=>wpAny (model prog w) A (pyIter x) (fun it2 nw=>
       codeAny (model prog w) A (.compStart (two elt tg iter tg2 iter2 scope pos) 1 it2 acc env) (fun r o0=>∃f,r = .ok f/\∃m,m<n/\I m o0) nw) (fun _ _=>False) bv) (fun _ _=>False) gl) (fun _ _=>False) s') (fun _ _=>False) ca) (fun _ _=>False) s)
  (n:Nat) (h:I n s) :
  codeAny (model prog w) A (.compLoop (two elt tg iter tg2 iter2 scope pos) 0 it acc env) R s:=by
 refine codeAny_loop rfl I (fun n s hI=>?_) n h
 show wpAny _ A ((compTurn (two elt tg iter tg2 iter2 scope pos) 0 it acc env).onRaise (fun x=>do noteFrame x env;theTreesLotGoes x)) _ _ s
 refine wpAny_noted ?_
 rw[zq]
 refine wpAny_bind (wpAny_standAt (wpAny_bind (wpAny_mono (turn n s hI) (fun r ca dL=>?_) fun _ _ h'=>h'.elim)))
 cases r with
 |none=>exact wpAny_pure dL
 |some v=>
  refine wpAny_bind (wpAny_mono dL (fun _ s' h'=>?_) fun _ _ h'=>h'.elim)
  refine wpAny_bind (wpAny_mono h' (fun _ gl mt=>wpAny_bind (wpAny_mono mt (fun x bv pd=>?_) fun _ _ h'=>h'.elim)) fun _ _ h'=>h'.elim)
  refine wpAny_bind (wpAny_standAt (wpAny_bind (wpAny_of_eq (hs x) (wpAny_bind (wpAny_holding (wpAny_mono pd (fun it2 nw tt=>wpAny_bind (wpAny_runOwn ?_)) fun _ _ h'=>h'.elim))))))
  refine codeAny_mono tt fun r o0 hq0=>?_
  obtain⟨f,e,m,hm,hI'⟩:=hq0
  subst e
  exact wpAny_pure ⟨rfl,m,hm,hI'⟩
theorem Bw(I:Nat->Shared->Prop)
  (turn:∀n s,I n s->wpAny (model prog w) A (pyNext it) (fun r ca=>match r with
   |none=>R (.ok .next) ca
   |some v=>wpAny (model prog w) A (letOwnedTupleGo tg2 it v) (fun _ s'=>wpAny (model prog w) A (assign tg2 env v) (fun _ bv=>
      wpAny (model prog w) A (eval elt env) (fun x nw=>
       wpAny (model prog w) A (call (.builtin "list.append") [acc,x]) (fun _ o0=>∃m,m<n/\I m o0) (fun _ _=>False) nw) (fun _ _=>False) bv) (fun _ _=>False) s') (fun _ _=>False) ca) (fun _ _=>False) s)
  (n:Nat) (h:I n s) :
  codeAny (model prog w) A (.compLoop (two elt tg iter tg2 iter2 scope pos) 1 it acc env) R s:=by
 refine codeAny_loop rfl I (fun n s hI=>?_) n h
 show wpAny _ A ((compTurn (two elt tg iter tg2 iter2 scope pos) 1 it acc env).onRaise (fun x=>do noteFrame x env;theTreesLotGoes x)) _ _ s
 refine wpAny_noted ?_
 rw[zO]
 refine wpAny_bind (wpAny_standAt (wpAny_bind (wpAny_mono (turn n s hI) (fun r ca dL=>?_) fun _ _ h'=>h'.elim)))
 cases r with
 |none=>exact wpAny_pure dL
 |some v=>
  refine wpAny_bind (wpAny_mono dL (fun _ s' h'=>?_) fun _ _ h'=>h'.elim)
  refine wpAny_bind (wpAny_mono h' (fun _ bv pd=>?_) fun _ _ h'=>h'.elim)
  exact wpAny_bind (wpAny_bind (wpAny_mono pd (fun x nw tt=>wpAny_bind (wpAny_mono tt (fun _ o0 ul=>wpAny_pure (wpAny_pure ⟨rfl,ul⟩)) fun _ _ h'=>h'.elim)) fun _ _ h'=>h'.elim))
theorem yw
  (h0:codeAny (model prog w) A (.compLoop (two elt tg iter tg2 iter2 scope pos) 1 it acc env) R s)
  (h:wpAny (model prog w) A (pyIter it) (fun it' s'=>codeAny (model prog w) A (.compLoop (two elt tg iter tg2 iter2 scope pos) 1 it' acc env) R s')
   (notedBy (model prog w) A env fun x s'=>R (.error x) s') s) :
  codeAny (model prog w) A (.compStart (two elt tg iter tg2 iter2 scope pos) 1 it acc env) R s:=by
 refine codeAny_of_tree ?_
 show wpAny _ _ ((compStart (two elt tg iter tg2 iter2 scope pos) 1 it acc env).onRaise (fun x=>do noteFrame x env;standAt theWindowsPlace)) _ _ s
 refine wpAny_notedAt ?_
 unfold compStart
 show wpAny _ _ (ask>>=_) _ _ s
 refine wpAny_bind (wpAny_askSetting (wpAny_ite ?_))
 split
 ·first
   |exact wpAny_bind (wpAny_pure (wpAny_pure (And.intro rfl h0)))
   |exact wpAny_pure (And.intro rfl h0)
 ·first
   |exact wpAny_bind (wpAny_rule (wpAny_bind (wpAny_standAt (wpAny_bind (wpAny_mono h (fun it' s' h'=>wpAny_pure (And.intro rfl h')) fun _ _ x=>x)))))
   |(refine wpAny_bind (wpAny_rule ?_);show wpAny _ _ (standAt iter2.pos>>=_) _ _ s;exact wpAny_bind (wpAny_standAt (wpAny_bind (wpAny_mono h (fun it' s' h'=>wpAny_pure (And.intro rfl h')) fun _ _ x=>x))))
end
theorem yP{Z:Mu}{p:Addr}{ds:List PyData}(h:Z p=some ds):aD Z p ds=Z:=Mu.eq (fun b=>by
 by_cases e:b=p
 ·rw[e,aE,h]
 ·rw[aV e]) fun _=>rfl
theorem Jn{X:Cx}{N':List Str}{cl:List (Str×Addr)}{fp0:List Addr}{bv:Shared}{ce:Hp}{elt tg iter tg2 iter2:Expr}{scope:Scope}{pos:Pos}{src2:DTI}{g2:DTG}{te:DTE}
  (hi2:DI (aG X N' scope cl fp0 bv ce) tg2 iter2 src2) (hg2:DG (aG X N' scope cl fp0 bv ce) tg2 g2) (he:DE (aG X N' scope cl fp0 bv ce) elt te)
  {pins:List (Addr×Obj)} {s:Shared} {σ:St} {H:Hp} {ρ:Rho} {Z:Mu} {p:Addr} {acc zs:List PyData} (I:Inv (aG X N' scope cl fp0 bv ce) pins σ H s) (S:St0 X.K H ρ Z σ) (hp:Z p=some acc) (hlen:acc.length+zs.length<=1000)
  (q:src2 ρ Z fun ys bi=>bi=Z/\∃h:PyData->PyData,zs=ys.map h/\∀y∈ys,∀ga:Mu,(∀a ds,a≠p->Z a=some ds->ga a=some ds)->g2 (.v y) ρ ga fun lf db=>Le ρ lf/\te lf db fun d jp=>jp=ga/\d = .v (h y)) :
  wpAny (model X.prog X.w) X.A (eval iter2 (aG X N' scope cl fp0 bv ce).env) (fun x s1=>wpAny (model X.prog X.w) X.A (pyIter x) (fun it2 s2=>
   codeAny (model X.prog X.w) X.A (.compStart (two elt tg iter tg2 iter2 scope pos) 1 it2 (.ref p) (aG X N' scope cl fp0 bv ce).env) (fun r s3=>∃f,r = .ok f/\∃lw H3,Inv (aG X N' scope cl fp0 bv ce) pins lw H3 s3/\St0 X.K H3 ρ (aD Z p (acc++zs)) lw/\Ext X.K Z H (aD Z p (acc++zs)) H3) s2) (fun _ _=>False) s1) (fun _ _=>False) s:=by
 obtain⟨wi,pw,li⟩:=hi2
 refine thn (pw pins s σ H _ I (li σ H ρ Z _ (fun J H1=>∃ys bi,Ext X.K Z H bi H1/\St0 X.K H1 ρ bi σ/\Jw X.K J ys bi H1/\bi=Z/\∃h:PyData->PyData,zs=ys.map h/\∀y∈ys,∀ga:Mu,(∀a ds,a≠p->Z a=some ds->ga a=some ds)->g2 (.v y) ρ ga fun lf db=>Le ρ lf/\te lf db fun d jp=>jp=ga/\d = .v (h y)) S q
  (fun ys bi H1 J e1 S1 it q=>⟨ys,bi,e1,S1,it,q⟩))) fun v s1 h1=>thn h1 fun itv s2 h2=>?_
 obtain⟨it,fp,tn,J,H2,rfl,I2,T,st2,f2,ys,bi,e1,S1,itok,rfl,h,rfl,body⟩:=h2
 have loop:codeAny (model X.prog X.w) X.A (.compLoop (two elt tg iter tg2 iter2 scope pos) 1 (.ref it) (.ref p) (aG X N' scope cl fp0 bv ce).env) (fun r s3=>∃f,r = .ok f/\∃lw H3,Inv (aG X N' scope cl fp0 bv ce) pins lw H3 s3/\St0 X.K H3 ρ (aD bi p (acc++ys.map h)) lw/\Ext X.K bi H (aD bi p (acc++ys.map h)) H3) s2:=by
  refine Bw (fun n s'=>∃(j:Nat) (dl:St) (Hc:Hp),n=ys.length-j/\j<=ys.length/\Inv (aG X N' scope cl fp0 bv ce) pins dl Hc s'/\tn j s'.heap/\(∀b∈fp,Hc b=none) /\
   St0 X.K Hc ρ (aD bi p (acc++(ys.take j).map h)) dl/\Ext X.K bi H2 (aD bi p (acc++(ys.take j).map h)) Hc) ?_ ys.length
   ⟨0,σ,H2,by simp,zero_le _,I2,st2,fun b hb=>(f2 b hb).1,?_,?_⟩
  ·rintro n s' ⟨i,dl,Hc,rfl,hi,Ic,tc,frc,Sc,Ec⟩
   have stat:∀{Hd:Hp},(∀b∈fp,Hd b=none)->∀b∈fp,qT (aG X N' scope cl fp0 bv ce) pins Hd b:=fun hn b hb=>⟨hn b hb,(f2 b hb).2⟩
   obtain⟨go,stop⟩:=itok _ Hc Ec Sc.mu i
   by_cases hlt:i<ys.length
   ·obtain⟨g1,y1⟩:=go hlt
    refine thn (T.item (aG X N' scope cl fp0 bv ce) rfl rfl rfl (fun z=>z) i pins s' dl Hc (fun _ _=>False) Ic (stat frc) tc g1) fun r s4 hq0=>?_
    obtain⟨u,hr,h4⟩:=hq0
    subst hr
    refine thn h4 fun _ s5 hq0=>?_
    obtain⟨x,H5,I5,r5,y5,st5,fr5⟩:=hq0
    obtain⟨d,hd,sm,rd⟩:=y1 x H5 y5
    have I5':=I5.pinned (stat fr5) (T.obj _ _ st5)
    have e5:Ext X.K _ Hc _ H5:=.of_same (Z:=aD bi p (acc++(ys.take i).map h)) sm
    have S5:St0 X.K H5 ρ (aD bi p (acc++(ys.take i).map h)) dl:=⟨Sc.mu.FH e5 sm,Sc.rho.ext Sc.mu e5⟩
    obtain⟨gt,pg,lg⟩:=hg2
    have hmem:d∈ys:=mem_of_getElem? hd
    have sub:∀a ds,a≠p->bi a=some ds->aD bi p (acc++(ys.take i).map h) a=some ds:=fun a ds ne e=>by rw[aV ne];exact e
    refine thn (pg _ s5 dl H5 x u (fun bn H'=>∃be U,Ext X.K (aD bi p (acc++(ys.take i).map h)) H5 U H'/\St0 X.K H' be U bn/\Le ρ be/\te be U fun d' jp=>jp=aD bi p (acc++(ys.take i).map h)/\d' = .v (h d)) I5' r5
     (lg dl H5 ρ _ (.v d) x _ _ S5 rd (body d hmem _ sub) fun bn be U H' e' S' q=>⟨be,U,e',S',q⟩)) fun _ s6 ⟨im,H6,I6,kw,sK,e6,S6,le6,q6⟩=>?_
    refine thn (he.use I6 S6 q6) fun v s8 hq0=>?_
    obtain⟨d',v8,pi,H8,I8,r8,e8,S8,ry,sn,ed⟩:=hq0
    subst sn;subst ed
    obtain⟨us,hacc,rus⟩:=S8.mu.lst p _ aE
    have hle:(acc++(ys.take i).map h).length<1000:=by
     rw[length_append,length_map,length_take]
     rw[length_map] at hlen
     omega
    refine thn (pX (X:=aG X N' scope cl fp0 bv ce) _ s8 im H8 (.ref p) [v8] (.ref p) [v] (fun _ H'=>H'=upd H8 p (.lst (us++[v8]))) I8 rfl (.cons r8 .nil) ⟨_,us,v8,rfl,rfl,hacc,by rw[<- rus.length];exact fK (Nat.le_of_lt hle),rfl⟩) fun _ s9 hq0=>?_
    obtain⟨_,H9,I9,_,e9⟩:=hq0
    subst e9
    have et:acc++(ys.take (i+1)).map h=acc++(ys.take i).map h++[h d]:=by
     obtain⟨hi',e⟩:=List.getElem?_eq_some_iff.mp hd
     rw[List.take_succ_eq_append_getElem hi',map_append,e,append_assoc]
     rfl
    have ex:Ext X.K (aD bi p (acc++(ys.take i).map h)) H8 (aD (aD bi p (acc++(ys.take i).map h)) p (acc++(ys.take i).map h++[h d])) (upd H8 p (.lst (us++[v8]))):=iF aE
    have m9:=S8.mu.set aE (rus.append (.cons ry .nil))
    rw[ig,<- et] at ex m9
    have Ef:=Ec.trans (e5.trans (e6.trans (e8.trans ex)))
    refine⟨ys.length-(i+1),∅,i+1,im,_,rfl,hlt,I9.eV,T.keep _ _ _ st5 fun b hb o e=>(I9.pin (b,o) (mem_append_right _ (mem_append_right _ (bK hb e)))).1,fun b hb=>?_,⟨m9,(S8.rho.ext S8.mu ex).le le6⟩,Ef⟩
    obtain⟨o,e,_⟩:=T.obj _ _ st5 b hb
    exact (I9.pin (b,o) (mem_append_right _ (mem_append_right _ (bK hb e)))).2.1
   ·have ei:i=ys.length:=by omega
    subst ei
    refine thn (T.done (aG X N' scope cl fp0 bv ce) rfl rfl rfl (fun z=>z) _ pins s' dl Hc (fun _ _=>False) Ic (stat frc) tc (stop rfl)) fun r s4 hq0=>?_
    obtain⟨hr,I5⟩:=hq0
    subst hr
    rw[take_length] at Sc Ec
    exact⟨_,rfl,dl,Hc,I5,Sc,e1.trans Ec⟩
  ·rw[take_zero,map_nil,append_nil,yP hp]
   exact S1
  ·rw[take_zero,map_nil,append_nil,yP hp]
   exact .refl
 exact yw loop (T.self X.A 0 _ _ _ st2 loop)
noncomputable def C2(cap:List (Option Nat))(src:DTI)(g:DTG)(src2:DTI)(g2:DTG)(te:DTE):DTE:=fun ρ Z Q=>src ρ Z fun xs ad=>xs.length<=1000/\∃f:PyData->List PyData,(xs.flatMap f).length<=1000 /\
   (∀x∈xs,∀U:Mu,(∀a ds,ad a=some ds->U a=some ds)->g (.v x) (bu cap ρ) U fun ci am=>Le (bu cap ρ) ci/\am=U/\src2 ci U fun ys bi=>bi=U/\∃h:PyData->PyData,f x=ys.map h/\∀y∈ys,∀ga:Mu,(∀a ds,ad a=some ds->ga a=some ds) ->
    g2 (.v y) ci ga fun lf db=>Le ci lf/\te lf db fun d jp=>jp=ga/\d = .v (h y))/\Q (.v (.list (xs.flatMap f))) ad
theorem Ig{cap:List (Option Nat)}{src:DTI}{g:DTG}{src2:DTI}{g2:DTG}{te:DTE}{ρ:Rho}{Z:Mu}{Q:DK}:C2 cap src g src2 g2 te ρ Z Q=src ρ Z fun xs ad=>xs.length<=1000/\∃f:PyData->List PyData,(xs.flatMap f).length<=1000 /\
   (∀x∈xs,∀U:Mu,(∀a ds,ad a=some ds->U a=some ds)->g (.v x) (bu cap ρ) U fun ci am=>Le (bu cap ρ) ci/\am=U/\src2 ci U fun ys bi=>bi=U/\∃h:PyData->PyData,f x=ys.map h/\∀y∈ys,∀ga:Mu,(∀a ds,ad a=some ds->ga a=some ds) ->
    g2 (.v y) ci ga fun lf db=>Le ci lf/\te lf db fun d jp=>jp=ga/\d = .v (h y))/\Q (.v (.list (xs.flatMap f))) ad:=rfl
theorem D2{X:Cx}{N':List Str}{scope:Scope}{cl:List (Str×Addr)}{elt iter tg tg2 iter2:Expr}{pos:Pos}{cap:List (Option Nat)}{src src2:DTI}{g g2:DTG}{te:DTE}(hc:X.calm=X.calm)
  (hi:DI X tg iter src) (hg:∀fp bv ce,DG (aG X N' scope cl fp bv ce) tg g) (hi2:∀fp bv ce,DI (aG X N' scope cl fp bv ce) tg2 iter2 src2) (hg2:∀fp bv ce,DG (aG X N' scope cl fp bv ce) tg2 g2) (he:∀fp bv ce,DE (aG X N' scope cl fp bv ce) elt te)
  (hclos:closureFor scope X.env=pure cl) (hcell:∀y∈scope.names,y.2≠.cell) (hkind:scope.kind = .function) (hnames:∀y∈scope.names,y.2 = .local->scope.names.lookup y.1=some .local)
  (hcl:∀x a,cl.lookup x=some a->X.env.cells.lookup x=some a) (hhas:∀x,(relabel scope X.env).names.lookup x=some .cell\/(relabel scope X.env).names.lookup x=some .free->∃a,cl.lookup x=some a)
  (hmono:∀(ρ:Rho) (Z:Mu) (Q Q':List PyData->Mu->Prop),src2 ρ Z Q->(∀ys U,Q ys U->Q' ys U)->src2 ρ Z Q') (hlen:cap.length=N'.length) (hcap:∀(i j:Nat) (x:Str),cap[i]? = some (some j)->N'[i]? = some x->X.N[j]? = some x/\Vis X.env.scope x/\X.env.kindOf x≠some .local/\((relabel scope X.env).names.lookup x=some .cell\/(relabel scope X.env).names.lookup x=some .free))
  (hs:∀x,foldedSetIterable iter X.env x=pure x:=by intro _;rfl) (hs2:∀(env:Env) x,foldedSetIterable iter2 env x=pure x:=by intro _ _;rfl):DE X (two elt tg iter tg2 iter2 scope pos) (C2 cap src g src2 g2 te):=by
 refine Kx fun pins s σ H ρ Z Qd Q I S h k=>?_
 obtain⟨wi,pw,li⟩:=hi
 show wpAny _ _ (eval (.ListComp elt [⟨tg,iter,[],0⟩,⟨tg2,iter2,[],0⟩] scope pos) X.env) _ _ _
 rw[eval_ListComp]
 refine wpAny_comprehension_free (use:=none) rfl hs hclos hkind hnames (thn (pw pins s σ H _ I (li σ H ρ Z _ (fun J H1=>∃xs ad,Ext X.K Z H ad H1/\St0 X.K H1 ρ ad σ/\Jw X.K J xs ad H1/\xs.length<=1000/\∃f:PyData->List PyData,(xs.flatMap f).length<=1000 /\
   (∀x∈xs,∀U:Mu,(∀a ds,ad a=some ds->U a=some ds)->g (.v x) (bu cap ρ) U fun ci am=>Le (bu cap ρ) ci/\am=U/\src2 ci U fun ys bi=>bi=U/\∃h:PyData->PyData,f x=ys.map h/\∀y∈ys,∀ga:Mu,(∀a ds,ad a=some ds->ga a=some ds) ->
    g2 (.v y) ci ga fun lf db=>Le ci lf/\te lf db fun d jp=>jp=ga/\d = .v (h y))/\Qd (.v (.list (xs.flatMap f))) ad) S h (fun xs ad H1 J e1 S1 it q=>⟨xs,ad,e1,S1,it,q⟩)))
  fun v s1 h1=>thn h1 fun itv s2 h2=>?_)
 obtain⟨it,fp,tn,J,H2,rfl,I2,T,st2,f2,xs,ad,e1,S1,itok,hxs,f,hfl,body,fin⟩:=h2
 refine wpAny_newObj_type (wpAny_newFunctionEnv hcell (by intro y hy;simp at hy) (fun dL ii io=>?_) hkind)
 dsimp only at ii io ⊢
 have hfree2:H2 s2.heap.objs.size=none:=I2.hok.fresh (le_refl _)
 have hK2:X.K.lookup s2.heap.objs.size=none:=by
  cases z:X.K.lookup s2.heap.objs.size with
  |none=>rfl
  |some o=>exact absurd (Heap.lt_size (I2.kIn _ _ z)) (lt_irrefl _)
 have I3:Inv X pins σ (upd H2 s2.heap.objs.size (.lst [])) {s2 with heap:=s2.heap.push {cls:=.type "list",dict:=none,data:=.seq ([]:List Value).toArray}}:=
  I2.laid (t':=s2.toks) (fun b u e=>Heap.get?_push_of_some _ e) (le_refl _) ⟨zero_le _,[],0,.nil,Heap.get?_push_size _ rfl⟩
 generalize hH:s2.heap.push {cls:=.type "list",dict:=none,data:=.seq ([]:List Value).toArray} = hp3 at ii io I3 ⊢
 have hsz3:hp3.objs.size=s2.heap.objs.size+1:=by rw[<- hH,Heap.size_push]
 have kept3:∀b o,hp3.get? b=some o->dL.get? b=some o:=fun b o e=>io.extBut b o (ne_of_lt (Heap.lt_size e)) (Heap.get?_push_of_some _ e)
 have old3:∀b o,s2.heap.get? b=some o->hp3.get? b=some o:=fun b o e=>by rw[<- hH];exact Heap.get?_push_of_some _ e
 have fplt:∀b∈fp,b<s2.heap.objs.size:=fun b hb=>by obtain⟨o,e,_⟩:=T.obj 0 _ st2 b hb;exact Heap.lt_size e
 have fpst:∀b∈fp,b ∉ frs X.stack:=fun b hb hz=>by
  rcases List.mem_cons.mp (I2.lz b hz) with e|e
  ·exact (f2 b hb).2.1 e
  ·exact (f2 b hb).2.2.1 e
 obtain⟨s3,hs3⟩:∃s3:Shared,s3={s2 with heap:=hp3}:=⟨_,rfl⟩
 obtain⟨H3,hH3⟩:∃H3:Hp,H3=upd H2 s2.heap.objs.size (.lst []):=⟨_,rfl⟩
 have heap3:s3.heap=hp3:=by rw[hs3]
 rw[<- hH3] at I3
 have I3':Inv X pins σ H3 s3:=by rw[hs3];exact I3
 have hloc:H3 hp3.objs.size=none:=by have:=I3'.hok.fresh (a:=hp3.objs.size) (by rw[heap3];exact le_refl _);exact this
 have okc:(aG X N' scope cl fp s3 H3).Ok:=by
  refine⟨I3.ok.mod,?_,I3.ok.glob,I3.ok.blt,le_refl _,fun x y a h1 h2=>I3.ok.inj x y a (hcl x a h1) (hcl y a h2),fun x hx=>hhas x hx,fun x a h=>(nomatch h),I3.ok.hd,I3.ok.qt,I3.ok.frames,.inl rfl,fun b hb=>⟨?_,fun x a h=>(f2 b hb).2.2.2.2.1 x a (hcl x a h)⟩,
   I3'.bs,le_trans I3.ok.bsz I3'.sz,fun b o e hb=>?_,fun b hb=>fpst b hb,I3'.stack,I3'.tL⟩
  ·exact hkind
  ·show b≠s3.heap.objs.size
   rw[heap3,hsz3]
   exact ne_of_lt (lt_succ_of_lt (fplt b hb))
  ·rcases (f2 b hb).2.2.2.1 with z|z
   ·exact I3.ok.EV b o e z
   ·exact absurd (lt_of_lt_of_le (Heap.lt_size (I3.ok.bs b o e).1) z) (lt_irrefl _)
 have I4:Inv (aG X N' scope cl fp s3 H3) [] (bu cap σ) H3 {s2 with heap:=dL,toks:=s2.toks+([]:List (Str×Value)).length}:=by
  refine⟨okc,by show s2.os=s3.os;rw[hs3],I3.bare,Un.kept (by show ∀b o,s3.heap.get? b=some o->_;rw[heap3];exact kept3),⟨_,(by show dL.Ns s3.heap.objs.size _;rw[heap3];exact ii),fun i x v e1 e2 e3=>?_⟩,fun x a h=>?_,(by show H3 s3.heap.objs.size=none;rw[heap3];exact hloc),fun x a h=>I3.mv x a (hcl x a h),fun p hp=>?_,I3.hok.kept kept3,?_⟩
  ·obtain⟨j,h1,h2⟩:=oT e2
   obtain⟨hN,hv,hnl,hk⟩:=hcap i j x h1 e1
   obtain⟨m,_,hl⟩:=I3.loc
   obtain⟨u,r,lk⟩:=hl j x v hN h2 hv
   refine⟨u,r,.inr ⟨hk,?_⟩⟩
   obtain⟨a,ha⟩:=hhas x hk
   rcases lk with ⟨z,_⟩|⟨_,a',z1,z2⟩
   ·exact absurd z hnl
   ·have:a'=a:=by have q:=hcl x a ha;rw[z1] at q;exact Option.some.inj q
    subst this
    obtain⟨o,ho,hd⟩:=z2
    exact⟨a',ha,o,kept3 _ _ ho,hd⟩
  ·obtain⟨v,o,ho,hd⟩:=I3.cell x a (hcl x a h)
   exact⟨v,o,kept3 _ _ ho,hd⟩
  ·have hp':p∈X.pn++pins:=mem_append_left _ (by simpa using (show p∈X.pn++[] from hp))
   obtain⟨z1,z2,z3,z4,z5⟩:=I3'.pin p hp'
   refine⟨kept3 _ _ (by rw[<- heap3];exact z1),z2,(show p.1≠s3.heap.objs.size from ne_of_lt (Heap.lt_size z1)),fun z=>?_,z5⟩
   rcases List.mem_cons.mp (I3'.lz p.1 z) with e|e
   ·exact z3 e
   ·exact z4 e
  ·show (bu cap σ).length=N'.length
   unfold bu
   rw[length_map]
   exact hlen
 have ls:ad s2.heap.objs.size=none:=S1.mu.free hfree2
 have sub1:∀ys a ds,ad a=some ds->aD ad s2.heap.objs.size ys a=some ds:=fun ys a ds e=>by
  have:a≠s2.heap.objs.size:=fun z=>by rw[z,ls] at e;cases e
  rw[aV this];exact e
 have loop:codeAny (model X.prog X.w) X.A (.compLoop (two elt tg iter tg2 iter2 scope pos) 0 (.ref it) (.ref s2.heap.objs.size) (aG X N' scope cl fp s3 H3).env)
   (compPost (model X.prog X.w) X.A X.xe none (EP X pins σ Q) (.ref s2.heap.objs.size) hp3.objs.size) {s2 with heap:=dL,toks:=s2.toks+([]:List (Str×Value)).length}:=by
  refine B3 (I:=fun n s'=>∃(i:Nat) (dl:St) (Hc:Hp),n=xs.length-i/\i<=xs.length/\Inv (aG X N' scope cl fp s3 H3) [] dl Hc s'/\tn i s'.heap/\(∀b∈fp,Hc b=none) /\
   St0 X.K Hc (bu cap ρ) (aD ad s2.heap.objs.size ((xs.take i).flatMap f)) dl/\Ext X.K ad H2 (aD ad s2.heap.objs.size ((xs.take i).flatMap f)) Hc) (hs2 _) ?_ xs.length
   ⟨0,bu cap σ,H3,by simp,zero_le _,I4,T.keep 0 _ _ st2 (fun b hb o e=>kept3 b o (old3 b o e)),fun b hb=>?_,?_,?_⟩
  ·rintro n s' ⟨i,dl,Hc,rfl,hi,Ic,tc,frc,Sc,Ec⟩
   have stat:∀{Hd:Hp},(∀b∈fp,Hd b=none)->∀b∈fp,qT (aG X N' scope cl fp s3 H3) [] Hd b:=fun hn b hb=>
    ⟨hn b hb,(okc.exf b hb).1,fpst b hb,.inl hb,fun x a h=>(okc.exf b hb).2 x a h,fun p hp=>(f2 b hb).2.2.2.2.2 p (mem_append_left _ (by simpa using (show p∈X.pn++[] from hp)))⟩
   obtain⟨go,stop⟩:=itok _ Hc Ec Sc.mu i
   by_cases hlt:i<xs.length
   ·obtain⟨g1,y1⟩:=go hlt
    refine thn (T.item (aG X N' scope cl fp s3 H3) rfl rfl rfl (fun z=>z) i [] s' dl Hc (fun _ _=>False) Ic (stat frc) tc g1) fun r s4 hq0=>?_
    obtain⟨u,hr,h4⟩:=hq0
    subst hr
    refine thn h4 fun _ s5 hq0=>?_
    obtain⟨x,H5,I5,r5,y5,st5,fr5⟩:=hq0
    obtain⟨d,hd,sm,rd⟩:=y1 x H5 y5
    have I5':=I5.pinned (stat fr5) (T.obj _ _ st5)
    have e5:Ext X.K _ Hc _ H5:=.of_same (Z:=aD ad s2.heap.objs.size ((xs.take i).flatMap f)) sm
    have S5:St0 X.K H5 (bu cap ρ) (aD ad s2.heap.objs.size ((xs.take i).flatMap f)) dl:=⟨Sc.mu.FH e5 sm,Sc.rho.ext Sc.mu e5⟩
    obtain⟨gt,pg,lg⟩:=hg fp s3 H3
    have hmem:d∈xs:=mem_of_getElem? hd
    refine thn (pg _ s5 dl H5 x u (fun bn H'=>∃be U,Ext X.K (aD ad s2.heap.objs.size ((xs.take i).flatMap f)) H5 U H'/\St0 X.K H' be U bn/\Le (bu cap ρ) be/\U=aD ad s2.heap.objs.size ((xs.take i).flatMap f)/\src2 be (aD ad s2.heap.objs.size ((xs.take i).flatMap f)) fun ys bi=>bi=aD ad s2.heap.objs.size ((xs.take i).flatMap f)/\∃h:PyData->PyData,f d=ys.map h/\∀y∈ys,∀ga:Mu,(∀a ds,ad a=some ds->ga a=some ds) ->
      g2 (.v y) be ga fun lf db=>Le be lf/\te lf db fun d jp=>jp=ga/\d = .v (h y)) I5' r5
     (lg dl H5 (bu cap ρ) _ (.v d) x _ _ S5 rd (body d hmem _ (sub1 _)) fun bn be U H' e' S' q=>⟨be,U,e',S',q⟩)) fun _ s6 ⟨im,H6,I6,kw,sK,e6,S6,le6,sn,q6⟩=>?_
    subst sn
    have et:(xs.take (i+1)).flatMap f=(xs.take i).flatMap f++f d:=by
     obtain⟨hi',e⟩:=List.getElem?_eq_some_iff.mp hd
     rw[List.take_succ_eq_append_getElem hi',flatMap_append,e]
     simp
    have hl2:((xs.take i).flatMap f).length+(f d).length<=1000:=by
     have h1:((xs.take (i+1)).flatMap f).length<=(xs.flatMap f).length:=by
      have:xs.flatMap f=(xs.take (i+1)).flatMap f++(xs.drop (i+1)).flatMap f:=by rw[<- flatMap_append,List.take_append_drop]
      rw[this,length_append]
      omega
     rw[et,length_append] at h1
     omega
    have q7:src2 kw (aD ad s2.heap.objs.size ((xs.take i).flatMap f)) fun ys bi=>bi=aD ad s2.heap.objs.size ((xs.take i).flatMap f)/\∃h:PyData->PyData,f d=ys.map h/\∀y∈ys,∀ga:Mu,(∀a ds,a≠s2.heap.objs.size->aD ad s2.heap.objs.size ((xs.take i).flatMap f) a=some ds->ga a=some ds) ->
      g2 (.v y) kw ga fun lf db=>Le kw lf/\te lf db fun d jp=>jp=ga/\d = .v (h y):=by
     refine hmono _ _ _ _ q6 fun ys bi ⟨z1,h,z2,z3⟩=>⟨z1,h,z2,fun y hy ga sb=>z3 y hy ga fun a ds e=>?_⟩
     have ne:a≠s2.heap.objs.size:=fun z=>by rw[z,ls] at e;cases e
     exact sb a ds ne (by rw[aV ne];exact e)
    refine thn (Jn (hi2 fp s3 H3) (hg2 fp s3 H3) (he fp s3 H3) I6 S6 aE hl2 q7) fun v7 s7 h7=>thn h7 fun it2 s8 h8=>codeAny_mono h8 fun r s9 ⟨fl,er,wS,H9,I9,S9,E9⟩=>⟨fl,er,?_⟩
    rw[ig,<- et] at S9 E9
    refine⟨xs.length-(i+1),∅,i+1,wS,H9,rfl,hlt,I9.eV,T.keep _ _ _ st5 fun b hb o e=>(I9.pin (b,o) (mem_append_right _ (mem_append_right _ (bK hb e)))).1,fun b hb=>?_,⟨S9.mu,S9.rho.le le6⟩,Ec.trans (e5.trans (e6.trans E9))⟩
    obtain⟨o,e,_⟩:=T.obj _ _ st5 b hb
    exact (I9.pin (b,o) (mem_append_right _ (mem_append_right _ (bK hb e)))).2.1
   ·have ei:i=xs.length:=by omega
    subst ei
    refine thn (T.done (aG X N' scope cl fp s3 H3) rfl rfl rfl (fun z=>z) _ [] s' dl Hc (fun _ _=>False) Ic (stat frc) tc (stop rfl)) fun r s4 hq0=>?_
    obtain⟨hr,I5⟩:=hq0
    subst hr
    rw[take_length] at Sc Ec
    obtain⟨m,hn,_⟩:=I5.loc
    refine⟨m,(by have z:s4.heap.Ns s3.heap.objs.size m:=hn;rw[heap3] at z;exact z),fun h' hs'=>?_⟩
    have kp:∀b o,b<s2.heap.objs.size->s4.heap.get? b=some o->h'.get? b=some o:=fun b o hb e=>hs'.extBut b o (by rw[hsz3];exact ne_of_lt (lt_succ_of_lt hb)) e
    have hcC:Hc hp3.objs.size=none:=by have z:Hc s3.heap.objs.size=none:=I5.free;rw[heap3] at z;exact z
    have hok':HOk X.prog X.w Hc h':=fun b ob e=>by
     refine (I5.hok b ob e).qX (fun cc v hcc q=>hs'.extBut cc v ?_ q) (fun _ q=>q) fun _ _ q=>q
     rintro rfl
     rcases hcc with z|z
     ·rw[<- z,hcC] at e;cases e
     ·rw[hcC] at z;cases z
    have u1:Un (frs X.stack) fp H2 H3 s2.heap s3.heap:=by rw[heap3,hH3];exact Un.laid old3 (le_refl _) hfree2
    have u2:Un (frs X.stack) fp H3 Hc s3.heap s4.heap:=I5.base
    have If:Inv X pins σ Hc {s4 with heap:=h'}:=I2.AK (ch:=fp) (by show s4.os=s2.os;have z:s4.os=s3.os:=I5.os;rw[z,hs3]) (Un.after (u1.trans u2) kp) hok' I5.bare fun b hb=>⟨(f2 b hb).2.2.2.1,(f2 b hb).2.1,(f2 b hb).2.2.2.2.1,(f2 b hb).2.2.2.2.2⟩
    obtain⟨us,hacc,rus⟩:=Sc.mu s2.heap.objs.size _ aE
    have shr:∀a,aD ad s2.heap.objs.size (xs.flatMap f) a=none->ad a=none:=fun a e=>by
     by_cases ha:a=s2.heap.objs.size
     ·rw[ha];exact ls
     ·rw[aV ha] at e;exact e
    have eF:Ext X.K ad H2 ad Hc:=⟨Ec.keep,Ec.tb,fun _ ds q=>⟨ds,q⟩,fun _ q _=>q,Ec.st,fun _ c q=>⟨c,q⟩⟩
    have mF:bJ X.K ad Hc:=⟨fun a ds q=>by
     obtain⟨ys,z1,z2⟩:=Sc.mu a ds (sub1 _ a ds q)
     exact⟨ys,z1,z2.shrink shr⟩,Sc.mu.tab,fun a c q=>let ⟨z,o,w1,w2⟩:=Sc.mu.box a c q;⟨z,o,w1,w2.shrink shr⟩⟩
    exact⟨.ref s2.heap.objs.size,Hc,If,rfl,k (.v (.list (xs.flatMap f))) _ ad Hc (e1.trans eF) ⟨mF,S1.rho.ext S1.mu eF⟩ (Rp.list hacc ls (rus.shrink shr)) fin⟩
  ·have z:b≠s2.heap.objs.size:=ne_of_lt (fplt b hb)
   rw[hH3,aS z]
   exact (f2 b hb).1
  ·have ex:=iw (o:=.lst []) (ds:=[]) S1.mu hfree2 hK2
   rw[hH3]
   exact⟨S1.mu.mut .nil hfree2 hK2,(S1.rho.ext S1.mu ex).cap⟩
  ·rw[hH3]
   exact iw (o:=.lst []) (ds:=[]) S1.mu hfree2 hK2
 have envE:(aG X N' scope cl fp s3 H3).env=compEnvC scope cl hp3.objs.size X.env:=by show compEnvC scope cl s3.heap.objs.size X.env=_;rw[heap3]
 rw[envE] at loop
 exact codeAny_compStart_list loop (T.self X.A 0 _ _ _ (T.keep 0 _ _ st2 (fun b hb o e=>kept3 b o (old3 b o e))) loop)
theorem Ek{i:Nat}{ρ:Rho}{Z:Mu}{Q Q':DK}(h:ah i ρ Z Q)(k:∀d U,Q d U->Q' d U):ah i ρ Z Q':=by
 unfold ah at h ⊢
 split at h
 ·exact k _ _ h
 ·exact h.elim
theorem AS{i j:Nat}(ρ:Rho)(Z:Mu)(Q Q':List PyData->Mu->Prop)(h:gR (bT (ag (ah i) (ag (ah j) aw))) ρ Z Q)(k:∀ys U,Q ys U->Q' ys U):gR (bT (ag (ah i) (ag (ah j) aw))) ρ Z Q':=by
 unfold gR bT ag at h ⊢
 refine Ek h fun x ad h=>Ek h fun y am h=>?_
 dsimp only[aw] at h ⊢
 split at h
 ·exact k _ _ h
 ·exact h.elim
theorem Aa{X:Cx}{tg e:Expr}{src:DTI}(h:DI X tg e src):DIW X tg e src:=by
 obtain⟨wi,p,l⟩:=h
 exact⟨wi,p,fun σ H ρ Z Qd R S s k=>l σ H ρ Z Qd R S s fun xs ad H1 J e st ok q=>k xs ad H1 J e st (fun am H2 e2 m2 _=>ok am H2 e2 m2) q⟩
theorem ln1{p:List Value->Prop}(h:∀a0,p [a0])(us:List Value)(hl:us.length=1):p us:=match us,hl with|[a0],_=>h a0
theorem ln2{p:List Value->Prop}(h:∀a0 a1,p [a0,a1])(us:List Value)(hl:us.length=2):p us:=match us,hl with|[a0,a1],_=>h a0 a1
theorem ln3{p:List Value->Prop}(h:∀a0 a1 a2,p [a0,a1,a2])(us:List Value)(hl:us.length=3):p us:=match us,hl with|[a0,a1,a2],_=>h a0 a1 a2
theorem ln4{p:List Value->Prop}(h:∀a0 a1 a2 a3,p [a0,a1,a2,a3])(us:List Value)(hl:us.length=4):p us:=match us,hl with|[a0,a1,a2,a3],_=>h a0 a1 a2 a3
theorem ln5{p:List Value->Prop}(h:∀a0 a1 a2 a3 a4,p [a0,a1,a2,a3,a4])(us:List Value)(hl:us.length=5):p us:=match us,hl with|[a0,a1,a2,a3,a4],_=>h a0 a1 a2 a3 a4
open PySem PySem.Spec PyProof.Rows NM
section
variable {Z:Mu}{Q:DK}{ds:List D}{x y:N3}
theorem Og(a b c:Int):PyData.tuple [.int a,.int b,.int c]=dN ⟨a,b,c⟩:=rfl
theorem MD:aM (.v (dN x)) (.v (.int 0)) Z Q=Q (.v (.int x.a)) Z:=by unfold dN;rw[Dc]
theorem Kz:aM (.v (dN x)) (.v (.int 1)) Z Q=Q (.v (.int x.b)) Z:=by unfold dN;rw[Cn]
theorem LF:aM (.v (dN x)) (.v (.int 2)) Z Q=Q (.v (.int x.c)) Z:=by unfold dN;rw[Cq]
theorem eqN:PyData.eqv (dN x) (dN y)=decide (x=y):=by
 unfold dN
 rw[Sg,Bool.eq_iff_iff]
 simp only[decide_eq_true_eq]
 exact⟨fun h=>N3.ext' h.1 h.2.1 h.2.2,fun h=>by subst h;exact⟨rfl,rfl,rfl⟩⟩
theorem Ie{neg:Bool}:cM neg (.v (dN x)) (.v (dN y)) Z Q=Q (.v (.bool (neg ^^ decide (x=y)))) Z:=by
 rw[N9,eqN]
 exact propext ⟨fun h=>h.2.2,fun h=>⟨rfl,rfl,h⟩⟩
theorem yf(h:Ok x):isNum (dN x)=true:=by
 have:=h.c
 show (decide (1<=x.c)&&(g3 x.a x.b x.c==1))=true
 rw[h.g]
 simp;omega
theorem QH:Few (dN x):=by simp[dN,Few]
theorem KC{d a b c:Int}(h:aJ d)(hc:0<c):sg d (low a b c).a (low a b c).b=sg d a b:=by
 obtain⟨k,hk,hs,p1,p2,p3,_⟩:=lH a b (show c≠0 by omega)
 have e:=pJ (a:=(low a b c).a) (b:=(low a b c).b) h (hs.mpr hc)
 rw[<- p1,<- p2] at e
 exact e.symm
theorem tZ{d:Int}(h:aJ d)(ox:Ok x)(oy:Ok y):sg d (less x y).a (less x y).b=dif d x y:=by
 unfold less dif
 rw[KC h (Int.mul_pos ox.c oy.c)]
theorem tU{lo:Int}{n i:Nat}{x:PyData}(h:(og lo n)[i]? = some x):x = .int (lo+i)/\i<n:=by
 unfold og at h
 rw[getElem?_map] at h
 by_cases hi:i<n
 ·rw[List.getElem?_range hi] at h
  cases h
  exact⟨rfl,hi⟩
 ·rw[getElem?_eq_none (by simpa using hi)] at h
  cases h
theorem mP{lo:Int}{n:Nat}:(og lo n).length=n:=by unfold og;simp
end
end L2.DL
namespace NM
noncomputable abbrev T3:=Nat×Nat×Nat
noncomputable def NW(β:Bool)(c i j s:Nat):List T3:=(List.range c).map fun k=>if β=true then (i+k*s,j,s) else (i,j+k*s,s)
noncomputable def Kr:List Nat->Bool->Nat->Nat->Nat->Nat->List T3
 |[],_,_,_,_,_=>[]
 |c::cs,true,i,j,a,b=>NW true c i j b++Kr cs false (i+c*b) j (a-c*b) b
 |c::cs,false,i,j,a,b=>NW false c i j a++Kr cs true i (j+c*a) a (b-c*a)
theorem Ia{β:Bool}{c i j s:Nat}:(NW β c i j s).length=c:=by unfold NW;simp
theorem qc:∀(cs:List Nat) (β:Bool) (i j a b:Nat),(Kr cs β i j a b).length=cs.sum
 |[],_,_,_,_,_=>rfl
 |c::cs,true,i,j,a,b=>by rw[Kr];rw[length_append,Ia,qc cs,List.sum_cons]
 |c::cs,false,i,j,a,b=>by rw[Kr];rw[length_append,Ia,qc cs,List.sum_cons]
end NM
namespace L2.DL
open PySem PySem.Spec PyProof.Rows NM
structure Tg{α:Sort u}(x:α):Type where
noncomputable def hd{α:Sort u}(x:α)(_:Tg x):α:=x
section
variable {ρ:Rho}{Z:Mu}{Q:DK}{QT:Bool->Mu->Prop}{Dd:AX}{ta tb tc:DTE}{t u:DTT}{tA:DTA}{s1 s2:DTS}{d:D}{A B:Prop}{p:Tg A}{q:Tg B}
theorem Sq{w:Tg Q}:hd Q w d Z=Q d Z:=propext Iff.rfl
theorem l_T{i:Decidable True}:(if True then hd A p else hd B q)=A:=if_pos trivial
theorem l_F{i:Decidable False}:(if False then hd A p else hd B q)=B:=if_neg id
theorem l_t{i:Decidable (true=true)}:(if true=true then hd A p else hd B q)=A:=if_pos rfl
theorem l_f{i:Decidable (false=true)}:(if false=true then hd A p else hd B q)=B:=if_neg Bool.false_ne_true
theorem bP{c:Prop}{i:Decidable c}(h:c):(if c then hd A p else hd B q)=A:=if_pos h
theorem bQ{c:Prop}{i:Decidable c}(h:¬ c):(if c then hd A p else hd B q)=B:=if_neg h
theorem Sh{i j:Int}{k:Decidable True}:(if True then i else j)=i:=if_pos trivial
theorem Sf{i j:Int}{k:Decidable False}:(if False then i else j)=j:=if_neg id
theorem R4{r}:dOp r ta tb ρ Z Q=ta ρ Z fun x ad=>tb ρ ad fun y am=>r x y am (hd Q .mk):=propext Iff.rfl
theorem QC{g:DTG}:bc ta g Dd ρ Z=ta ρ Z (hd (fun d ad=>g d ρ ad Dd.nx) .mk):=propext Iff.rfl
theorem Sb{rd}:dCB rd tA ρ Z Q=tA ρ Z fun ds ad=>rd ds ad (hd Q .mk):=propext Iff.rfl
theorem PY{dsp:DSp}:az dsp tA ρ Z Q=tA ρ Z fun ds ad=>dsp ds ad (hd Q .mk):=propext Iff.rfl
theorem O0:y6 t u ρ Z QT=t ρ Z fun c ad=>if c=true then hd (u ρ ad QT) .mk else hd (QT false ad) .mk:=propext Iff.rfl
theorem Ro:fZ t u ρ Z QT=t ρ Z fun c ad=>if c=true then hd (QT true ad) .mk else hd (u ρ ad QT) .mk:=propext Iff.rfl
theorem Oy:kA ta tb ρ Z Q=ta ρ Z fun x ad=>match x with|.v (.bool c)=>if c=true then hd (tb ρ ad Q) .mk else hd (Q (.v (.bool false)) ad) .mk|_=>False:=propext Iff.rfl
theorem Si:dIf t ta tb ρ Z Q=t ρ Z fun c ad=>if c=true then hd (ta ρ ad Q) .mk else hd (tb ρ ad Q) .mk:=propext Iff.rfl
theorem RF:cF t s1 s2 Dd ρ Z=t ρ Z fun b ad=>if b=true then hd (s1 Dd ρ ad) .mk else hd (s2 Dd ρ ad) .mk:=propext Iff.rfl
theorem Np{r r'}:GP r r' ta tb tc ρ Z Q=ta ρ Z fun x ad=>tb ρ ad fun y am=>r x y am fun z bi=>match z with
 |.v (.bool k)=>if k=true then hd (tc ρ bi fun w db=>r' y w db Q) .mk else hd (Q (.v (.bool false)) bi) .mk
 |_=>False:=propext Iff.rfl
end
local macro_rules|`(tactic| walk_at "rn")=>mkW "↓GZ ↓FT ↓FD ↓Gu ↓GB ↓FW ↓GF ↓GQ ↓FL ↓GV ↓B9 ↓q_c ↓QY ↓q_B ↓Pc ↓Mr ↓Lw ↓Ka ↓N4 ↓Ga ↓KI ↓G8 ↓QB ↓KA ↓Gz ↓Kp ↓Lc ↓Hk ↓LH ↓Kb ↓Mj ↓Ip ↓Ki ↓FJ ↓Gk ↓GA ↓Dc ↓Cn ↓Cq ↓FP ↓A7 ↓xy ↓Lm ↓KN ↓MC ↓QM ↓FK ↓GS ↓Gd ↓Ha ↓LM ↓OX ↓G6 ↓KL ↓La ↓BI ↓Gf ↓C1 ↓FY ↓GX ↓N7 ↓Lv ↓Hl ↓LA ↓Ls ↓GY ↓Ob ↓B0 ↓Mm ↓K1 ↓Lf ↓GG ↓yL ↓CQ ↓yE ↓x9 ↓BU ↓yx ↓yb ↓K7 rQ ↓kU ↓mR FZ Gv Mh Mi LL Option.bind_none bind_some join_some List.getElem?_cons_zero List.getElem?_cons_succ aL Og MD Kz LF Ie xU A1 AU Fg IB List.map List.append List.replicate length_cons length_nil Nat.reduceAdd Nat.reduceSub List.nil_append cons_append List.set_cons_zero List.set_cons_succ map_some ↓reduceIte Bool.not_true Bool.not_false false_eq_true Bool.true_eq_false xor_false false_xor"
theorem Dv{d:Int}{x y:N3}:dif d x y=NP d x y:=rfl
noncomputable def bR(d:Int):PyData->Bool
 |.tuple [.int a,.int b,.int c]=>isNum (.tuple [.int a,.int b,.int c])&&decide (sg d a b=1)
 |_=>false
noncomputable def dq:DSp:=fun ds Z Q=>∃(d:Int) (t:PyData),ds=[.v (.int d),.v t]/\aJ d/\Few t/\(∀x,t=dN x->Bd 8900 x)/\Q (.v (.bool (bR d t))) Z
theorem rR{Z:Mu}{Q:DK}{ds:List D}(h:dq ds Z Q):ds.length=2:=by obtain⟨_,_,rfl,_⟩:=h;rfl
noncomputable def lR(a:Addr)(Z U:Mu):Prop:=Bag U a/\∀b,b≠a->∀ds,Z b=some ds->U b=some ds
noncomputable def fF:DTS:=
 (bb (kA (az kS (ag (ah 1) aw)) (dOp (cM false) (az hJ (ag (ah 0) (ag (ah 1) aw))) (dC (.int 1)))))
section
variable {Z:Mu}{Qd:DK}{ds:List D}
theorem j3{d:Int}{x:N3}(ox:Ok x):bR d (dN x)=decide (sg d x.a x.b=1):=by
 show (isNum (dN x)&&decide (sg d x.a x.b=1))=_
 rw[yf ox,Bool.true_and]
theorem jJ{d:Int}{t:PyData}(h:isNum t=false):bR d t=false:=by
 unfold bR
 split
 ·rw[h,Bool.false_and]
 ·rfl
theorem dy{t:PyData}(h:isNum t=true):∃x:N3,t=dN x/\Ok x:=by
 unfold isNum at h
 split at h
 ·rename_i a b c
  simp only[and_eq_true,decide_eq_true_eq,beq_iff_eq] at h
  exact⟨⟨a,b,c⟩,rfl,by show 0<c;omega,h.2⟩
 ·cases h
theorem rj(h:dq ds Z Qd):fF ‹Qd› (aL ["d","thing"] ds) Z:=by
 obtain⟨d,t,rfl,hd,ft,bt,q⟩:=h
 unfold fF
 walk_at "rn"
 refine⟨t,rfl,ft,?_⟩
 walk_at "rn"
 cases e:isNum t with
 |true=>
  walk_at "rn"
  obtain⟨x,rfl,ox⟩:=dy e
  refine⟨d,x,rfl,hd,bt x rfl,?_⟩
  walk_at "rn"
  rw[j3 ox] at q
  exact q
 |false=>
  walk_at "rn"
  rw[jJ e] at q
  exact q
theorem qY{x y:N3}(e:dN x=dN y):x=y:=by
 simp only[dN,PyData.tuple.injEq,List.cons.injEq,PyData.int.injEq,and_true] at e
 exact N3.ext' e.1 e.2.1 e.2.2
theorem lR.trans{a:Addr}{Z ad am:Mu}(h:lR a Z ad)(g:lR a ad am):lR a Z am:=⟨g.1,fun b n ds e=>g.2 b n ds (h.2 b n ds e)⟩
theorem Step.w{a:Addr}{Z U:Mu}(h:Step a Z U):lR a Z U:=⟨h.1,fun b n ds e=>by rw[h.2 b n];exact e⟩
end
noncomputable def da(d:Int)(ms:List N3):Prop:=ms.Pairwise fun a b=>dif d b a=1
noncomputable def tR:DSp:=fun ds Z Q=>∃(d:Int) (p:Addr) (ms:List N3) (x:N3),ds=[.v (.int d),.m p,.v (dN x)]/\aJ d/\Z p=some (ms.map dN)/\(∀m∈ms,Ok m/\Bd 4400 m)/\Ok x/\Bd 4400 x/\da d ms/\ms.length<=1000 /\
 ∀r:Nat,r<=ms.length->(∀i m,i<r->ms[i]? = some m->dif d x m=1)->(∀i m,r<=i->ms[i]? = some m->¬ dif d x m=1)->Q (.v (.int (r:Nat))) Z
theorem C7{ds:List D}{Z:Mu}{Q:DK}(h:tR ds Z Q):ds.length=3:=by obtain⟨_,_,_,_,rfl,_⟩:=h;rfl
noncomputable def yW:DSp:=fun ds Z Q=>∃(d:Int) (fs:List N3),ds=[.v (.int d),.v (.list (fs.map dN))]/\aJ d/\(∀m∈fs,Ok m/\Bd 4400 m)/\fs.length<=1000 /\
 ∀p ms U,Z p=none->dE Z U->U p=some (ms.map dN)->da d ms->(∀x,x∈ms↔x∈fs)->Q (.m p) U
theorem C8{ds:List D}{Z:Mu}{Q:DK}(h:yW ds Z Q):ds.length=2:=by obtain⟨_,_,rfl,_⟩:=h;rfl
noncomputable def jP:DTS:=
 (aK (bc (dC (.int 0)) (ao 3))
 (aK (bc (dCB dw (ag (ah 1) aw)) (ao 4))
 (aK (qA (dB (dOp rLt (ah 3) (ah 4))) (aK (bc (wQ (de (ah 3) (ah 4)) (dC (.int 2))) (ao 5))
 (cF (dB (az w6 (ag (ah 0) (ag (ah 2) (ag (dOp aM (ah 1) (ah 5)) aw))))) (bc (de (ah 5) (dC (.int 1))) (ao 3)) (bc (ah 5) (ao 4)))))
 (bb (ah 3)))))
noncomputable def jb:DTS:=
 (aK (bc (qx aw) (ao 2))
 (aK (nU (jd (ah 1)) (ao 3) (aK (bc (az tR (ag (ah 0) (ag (ah 2) (ag (ah 3) aw)))) (ao 4))
 (cF (fZ (dB (dOp (cM false) (ah 4) (dCB dw (ag (ah 2) aw)))) (dB (dOp (cM true) (dOp aM (ah 2) (ah 4)) (ah 3)))) (nE (Jm (ah 2) (ah 4) (ah 3))) bA)))
 (bb (ah 2))))
section
variable {Z:Mu}{Qd:DK}{ds:List D}
theorem Ku(r s:Nat):(r:Int).fdiv (s:Int)=((r / s:Nat):Int):=by rw[Int.fdiv_eq_ediv_of_nonneg _ (Int.natCast_nonneg s)];rfl
theorem oi{ks:List N3}{i:Nat}{m:N3}(h:ks[i]? = some m):atI (ks.map dN) (i:Int)=some (dN m):=by
 have hl:i<ks.length:=by
  rcases lt_or_ge i ks.length with z|z
  ·exact z
  ·rw[getElem?_eq_none z] at h;cases h
 unfold atI ixN
 rw[if_pos ∅,if_pos (by rw[length_map];omega)]
 simp only[bind_some,Int.toNat_natCast]
 rw[getElem?_map,h]
 rfl
theorem g8{d:Int}{x y z:N3}(hd:aJ d)(ox:Ok x)(oy:Ok y)(oz:Ok z)(h1:dif d x y=1)(h2:dif d y z=1):dif d x z=1:=by
 rw[Dv] at *
 unfold NP at *
 have cx:=ox.c
 have cy:=oy.c
 have cz:=oz.c
 have a1:P d (z.c*(x.a*y.c-y.a*x.c)) (z.c*(x.b*y.c-y.b*x.c)):=(kP hd).mp (by rw[pJ hd cz];exact h1)
 have a2:P d (x.c*(y.a*z.c-z.a*y.c)) (x.c*(y.b*z.c-z.b*y.c)):=(kP hd).mp (by rw[pJ hd cx];exact h2)
 have a3:=(kP hd).mpr (Rc hd a1 a2)
 have e1:z.c*(x.a*y.c-y.a*x.c)+x.c*(y.a*z.c-z.a*y.c)=y.c*(x.a*z.c-z.a*x.c):=by grind
 have e2:z.c*(x.b*y.c-y.b*x.c)+x.c*(y.b*z.c-z.b*y.c)=y.c*(x.b*z.c-z.b*x.c):=by grind
 rw[e1,e2,pJ hd cy] at a3
 exact a3
theorem um{d:Int}{ms:List N3}(h:da d ms){i j:Nat}{a b:N3}(hij:i<j)(ha:ms[i]? = some a)(hb:ms[j]? = some b):dif d b a=1:=by
 obtain⟨hi,rfl⟩:=List.getElem?_eq_some_iff.mp ha
 obtain⟨hj,rfl⟩:=List.getElem?_eq_some_iff.mp hb
 exact List.pairwise_iff_getElem.mp h i j hi hj hij
theorem dif_neg{d:Int}{x y:N3}(hd:aJ d):dif d y x = - dif d x y:=by
 rw[Dv,Dv]
 unfold NP
 rw[<- Cf hd]
 congr 1<;>grind
theorem MQ{d:Int}{x y:N3}(hd:aJ d)(ox:Ok x)(oy:Ok y)(h:¬ dif d x y=1)(n:y≠x):dif d y x=1:=by
 rw[dif_neg hd]
 have t:dif d x y=0\/dif d x y=1\/dif d x y = -1:=by rw[Dv];exact nz _ _ _
 rcases t with t|t|t
 ·exact absurd (Lk ox oy (by rw[<- Dv];exact t)).symm n
 ·exact absurd t h
 ·rw[t];rfl
theorem DJ{d:Int}{ms:List N3}{f:N3}{r:Nat}(hd:aJ d)(gm:∀m∈ms,Ok m)(of:Ok f)(hr:da d ms)(hl:r<=ms.length)(hb:∀i m,i<r->ms[i]? = some m->dif d f m=1)(ha:∀i m,r<=i->ms[i]? = some m->¬ dif d f m=1)(hn:∀m,ms[r]? = some m->m≠f):da d (ms.take r++f::ms.drop r):=by
 unfold da at *
 rw[List.pairwise_append]
 have hbm:∀m∈ms.take r,dif d f m=1:=fun m hm=>by
  obtain⟨i,hi,e⟩:=List.mem_iff_getElem.mp hm
  have hi':i<r:=by rw[length_take] at hi;omega
  refine hb i m hi' ?_
  rw[<- e,List.getElem_take]
  exact getElem?_eq_getElem _
 have ham:∀m∈ms.drop r,dif d m f=1:=fun m hm=>by
  obtain⟨i,hi,e⟩:=List.mem_iff_getElem.mp hm
  have hi2:r+i<ms.length:=by rw[List.length_drop] at hi;omega
  have em:ms[r+i]? = some m:=by rw[<- e,List.getElem_drop];exact getElem?_eq_getElem _
  have er:ms[r]? = some ms[r]:=getElem?_eq_getElem ∅
  have o1:=gm ms[r] (getElem_mem _)
  have b1:=MQ hd of o1 (ha r _ (le_refl _) er) (hn _ er)
  cases i with
  |zero=>rw[Nat.add_zero,er] at em;cases em;exact b1
  |succ i=>exact g8 hd (gm m (mem_of_getElem? em)) o1 of (um hr ∅ er em) b1
 refine⟨hr.sublist (List.take_sublist _ _),List.pairwise_cons.mpr ⟨ham,hr.sublist (List.drop_sublist _ _)⟩,fun a ha' b hb'=>?_⟩
 rcases List.mem_cons.mp hb' with rfl|hb'
 ·exact hbm a ha'
 ·exact g8 hd (gm b (List.mem_of_mem_drop hb')) of (gm a (List.mem_of_mem_take ha')) (ham b hb') (hbm a ha')
theorem Hw{α:Type}{ms:List α}{f x:α}{r:Nat}:x∈ms.take r++f::ms.drop r↔x=f\/x∈ms:=by
 rw[mem_append,mem_cons]
 have h:x∈ms↔x∈ms.take r\/x∈ms.drop r:=by
  conv=>lhs;rw[<- List.take_append_drop r ms]
  rw[mem_append]
 rw[h]
 constructor
 ·rintro (a|a|a)
  ·exact .inr (.inl a)
  ·exact .inl a
  ·exact .inr (.inr a)
 ·rintro (a|a|a)
  ·exact .inr (.inl a)
  ·exact .inl a
  ·exact .inr (.inr a)
theorem wH(h:yW ds Z Qd):jb ‹Qd› (aL ["d","found","marks","x","place"] ds) Z:=by
 obtain⟨d,fs,rfl,hd,gf,hl,q⟩:=h
 unfold jb
 walk_at "rn"
 intro p hp
 rw[jj]
 walk_at "rn"
 refine⟨fun i ρ U=>∃r3 r4 ms,ρ=[some (.v (.int d)),some (.v (.list (fs.map dN))),some (.m p),r3,r4]/\dE Z U/\U p=some (ms.map dN)/\da d ms/\(∀x,x∈ms↔x∈fs.take i)/\ms.length<=i,⟨_,_,[],rfl,dE.refl.set hp,aE,List.Pairwise.nil,by simp,le_refl _⟩,?_,?_⟩
 ·rintro i x ρ U hx ⟨r3,r4,ms,rfl,sb,hm,hr,hms,lm⟩
  have hil:i<fs.length:=by
   rcases lt_or_ge i fs.length with z|z
   ·exact z
   ·rw[getElem?_eq_none (by rw[length_map];exact z)] at hx;cases hx
  obtain⟨f,ef,rfl⟩:∃f,fs[i]? = some f/\x=dN f:=by
   rw[getElem?_map,getElem?_eq_getElem hil] at hx
   exact⟨fs[i],getElem?_eq_getElem hil,(Option.some.inj hx).symm⟩
  have gm:∀m∈ms,Ok m/\Bd 4400 m:=fun m h=>gf m (List.mem_of_mem_take ((hms m).mp h))
  obtain⟨of,bf⟩:=gf f (mem_of_getElem? ef)
  have tk:fs.take (i+1)=fs.take i++[f]:=by rw[take_succ,ef];rfl
  walk_at "rn"
  refine⟨d,p,ms,f,rfl,hd,hm,gm,of,bf,hr,∅,fun r rl hb ha=>?_⟩
  have fin:(∀m,ms[r]? = some m->m≠f)->∃r3 r4 ms',[some (D.v (.int d)),some (D.v (.list (fs.map dN))),some (D.m p),some (D.v (dN f)),some (D.v (.int (r:Nat)))]=[some (.v (.int d)),some (.v (.list (fs.map dN))),some (.m p),r3,r4]/\dE Z (aD U p ((ms.map dN).take r++dN f::(ms.map dN).drop r))/\aD U p ((ms.map dN).take r++dN f::(ms.map dN).drop r) p=some (ms'.map dN)/\da d ms'/\(∀x,x∈ms'↔x∈fs.take (i+1))/\ms'.length<=i+1:=fun hn=>by
   refine⟨_,_,ms.take r++f::ms.drop r,rfl,sb.set hp,?_,DJ hd (fun m h=>(gm m h).1) of hr rl hb ha hn,fun x=>?_,by simp;omega⟩
   ·rw[aE,map_append,map_cons,List.map_take,List.map_drop]
   ·rw[Hw,tk,mem_append,mem_singleton,hms]
    exact Or.comm
  walk_at "rn"
  rw[hm]
  dsimp only
  rw[length_map]
  have put:(∀m,ms[r]? = some m->m≠f)->∀K:DK,(∀z,(∃r3 r4 ms',[some (D.v (.int d)),some (D.v (.list (fs.map dN))),some (D.m p),some (D.v (dN f)),some (D.v (.int (r:Nat)))]=[some (.v (.int d)),some (.v (.list (fs.map dN))),some (.m p),r3,r4]/\dE Z z/\z p=some (ms'.map dN)/\da d ms'/\(∀x,x∈ms'↔x∈fs.take (i+1))/\ms'.length<=i+1)->K (.v .none) z)->Jm (ah 2) (ah 4) (ah 3) [some (D.v (.int d)),some (D.v (.list (fs.map dN))),some (D.m p),some (D.v (dN f)),some (D.v (.int (r:Nat)))] U K:=fun hn K kk=>by
   rw[N8]
   walk_at "rn"
   exact⟨r,dN f,ms.map dN,rfl,rfl,hm,by rw[length_map];exact rl,by rw[length_map];omega,kk _ (fin hn)⟩
  by_cases c:r=ms.length
  ·rw[if_pos (decide_eq_true ∅)]
   exact put (fun m e=>by rw[getElem?_eq_none ∅] at e;cases e) _ fun z h=>h
  ·rw[if_neg (by simp;omega)]
   have rl':r<ms.length:=by omega
   have er:ms[r]? = some ms[r]:=getElem?_eq_getElem rl'
   rw[oi er]
   dsimp only
   rw[Ie]
   dsimp only
   by_cases cf:ms[r]=f
   ·rw[if_neg (by simp[cf])]
    refine⟨_,_,ms,rfl,sb,hm,hr,fun x=>?_,∅⟩
    rw[tk,mem_append,mem_singleton,hms]
    constructor
    ·exact .inl
    ·rintro (h|rfl)
     ·exact h
     ·rw[<- hms,<- cf];exact getElem_mem _
   ·rw[if_pos (by simp[cf])]
    exact put (fun m e=>by rw[er] at e;cases e;exact cf) _ fun z h=>h
 ·rintro ρ U ⟨r3,r4,ms,rfl,sb,hm,hr,hms,lm⟩
  rw[length_map,take_length] at hms
  exact q p ms U hp sb hm hr hms
theorem yo(h:tR ds Z Qd):jP ‹Qd› (aL ["d","marks","x","low","high","middle"] ds) Z:=by
 obtain⟨d,p,ms,x,rfl,hd,hp,gm,ox,bx,hr,hl,q⟩:=h
 unfold jP
 walk_at "rn"
 rw[hp]
 dsimp only
 rw[Cc,length_map]
 refine⟨fun n ρ U=>∃(lo hi:Nat) (r5:Option D),ρ=[some (.v (.int d)),some (.m p),some (.v (dN x)),some (.v (.int (lo:Nat))),some (.v (.int (hi:Nat))),r5]/\U=Z/\n=hi-lo/\lo<=hi/\hi<=ms.length/\(∀i m,i<lo->ms[i]? = some m->dif d x m=1)/\(∀i m,hi<=i->ms[i]? = some m->¬ dif d x m=1),
  ⟨_,0,ms.length,none,rfl,rfl,rfl,zero_le _,le_refl _,fun i m z=>absurd z (not_lt_zero _),fun i m z e=>by rw[getElem?_eq_none z] at e;cases e⟩,?_⟩
 rintro n ρ U ⟨lo,hi,r5,rfl,rfl,rfl,h1,h2,hb,ha⟩
 walk_at "rn"
 by_cases c:lo<hi
 ·rw[if_pos (by simpa using c)]
  have hm:(lo+hi) / 2<ms.length:=by omega
  have em:ms[(lo+hi) / 2]? = some ms[(lo+hi) / 2]:=getElem?_eq_getElem hm
  have ef:(((lo:Nat):Int)+((hi:Nat):Int)).fdiv 2=(((lo+hi) / 2:Nat):Int):=by
   have:((lo:Nat):Int)+((hi:Nat):Int)=((lo+hi:Nat):Int):=by omega
   rw[this]
   exact Ku (lo+hi) 2
  rw[hp,ef]
  dsimp only
  rw[oi em]
  generalize ms[(lo+hi) / 2]=mm at em
  obtain⟨omm,bmm⟩:=gm mm (mem_of_getElem? em)
  refine⟨zm ⋯ (Sz.of (n:=2) ⋯) ⋯,d,x,mm,rfl,hd,bx,bmm,?_⟩
  dsimp only
  by_cases cc:dif d x mm=1
  ·rw[if_pos (decide_eq_true cc)]
   refine⟨_,?_,(lo+hi) / 2+1,hi,some (.v (.int (((lo+hi) / 2:Nat):Int))),by simp,rfl,rfl,∅,h2,fun i m z e=>?_,ha⟩
   ·omega
   ·rcases lt_or_eq_of_le (le_of_lt_succ z) with z|z
    ·obtain⟨om,_⟩:=gm m (mem_of_getElem? e)
     exact g8 hd ox omm om cc (um hr z e em)
    ·rw[z,em] at e
     cases e
     exact cc
  ·rw[if_neg (by simpa using cc)]
   refine⟨_,?_,lo,(lo+hi) / 2,_,rfl,rfl,rfl,∅,∅,hb,fun i m z e f=>cc ?_⟩
   ·omega
   ·rcases lt_or_eq_of_le z with z|z
    ·obtain⟨om,_⟩:=gm m (mem_of_getElem? e)
     exact g8 hd ox om omm f (um hr z em e)
    ·rw[<- z,em] at e
     cases e
     exact f
 ·rw[if_neg (by simpa using c)]
  obtain rfl:lo=hi:=by omega
  exact q lo h2 hb ha
end
noncomputable def numAt:PyData->N3
 |.tuple [.int a,.int b,.int c]=>⟨a,b,c⟩
 |_=>ax
noncomputable def xH(t:PyData):Prop:=Few t/\∀x,t=dN x->Bd 4400 x
noncomputable def N6(t:PyData):Prop:=∀a b c e,t = .tuple [a,b,c,e]->xH a/\xH b/\xH c/\xH e
noncomputable def ji(d:Int):PyData->Bool
 |.tuple [a,b,c,e]=>(isNum a&&(isNum b&&(decide (0<=sg d (numAt a).a (numAt a).b)&&decide (0<=sg d (numAt b).a (numAt b).b))))&&(bR d c&&bR d e)
 |_=>false
noncomputable def qU:DSp:=fun ds Z Q=>∃(d:Int) (t:PyData),ds=[.v (.int d),.v t]/\aJ d/\N6 t/\Q (.v (.bool (ji d t))) Z
theorem yp{ds:List D}{Z:Mu}{Q:DK}(h:qU ds Z Q):ds.length=2:=by obtain⟨_,_,rfl,_⟩:=h;rfl
noncomputable def Mv(t:PyData):Prop:=∀a b c,t = .tuple [a,b,c]->xH a/\xH b/\∀ts,c = .tuple ts->ts.length<=1000/\∀x∈ts,N6 x
noncomputable def lC(d:Int):PyData->Bool
 |.tuple [a,b,.tuple ts]=>bR d a&&(bR d b&&(decide (1<=ts.length)&&(decide (ts.length<=60)&&ts.all (ji d))))
 |_=>false
noncomputable def xg:DSp:=fun ds Z Q=>∃(d:Int) (t:PyData),ds=[.v (.int d),.v t]/\aJ d/\Mv t/\Q (.v (.bool (lC d t))) Z
theorem E6{ds:List D}{Z:Mu}{Q:DK}(h:xg ds Z Q):ds.length=2:=by obtain⟨_,_,rfl,_⟩:=h;rfl
noncomputable def rN:DTS:=
 (aK (cF (fZ (du (dB (wX "tuple" (ah 1)))) (dB (dOp (cM true) (dCB dw (ag (ah 1) aw)) (dC (.int 4))))) (bb (dC (.bool false))) bA)
 (aK (bc (ah 1) (bU 4 (aA (ao 2) (aA (ao 3) (aA (ao 4) (aA (ao 5) bY))))))
 (aK (cF (fZ (du (dB (az kS (ag (ah 2) aw)))) (fZ (du (dB (az kS (ag (ah 3) aw)))) (fZ (dB (dOp rLt (az hJ (ag (ah 0) (ag (ah 2) aw))) (dC (.int 0)))) (dB (dOp rLt (az hJ (ag (ah 0) (ag (ah 3) aw))) (dC (.int 0))))))) (bb (dC (.bool false))) bA)
 (bb (kA (az dq (ag (ah 0) (ag (ah 4) aw))) (az dq (ag (ah 0) (ag (ah 5) aw))))))))
noncomputable def oP:DTS:=
 (aK (cF (fZ (du (dB (wX "tuple" (ah 1)))) (dB (dOp (cM true) (dCB dw (ag (ah 1) aw)) (dC (.int 3))))) (bb (dC (.bool false))) bA)
 (aK (bc (ah 1) (bU 3 (aA (ao 2) (aA (ao 3) (aA (ao 4) bY)))))
 (aK (cF (fZ (du (dB (az dq (ag (ah 0) (ag (ah 2) aw))))) (du (dB (az dq (ag (ah 0) (ag (ah 3) aw)))))) (bb (dC (.bool false))) bA)
 (aK (cF (fZ (du (dB (wX "tuple" (ah 4)))) (fZ (dB (dOp rLt (dCB dw (ag (ah 4) aw)) (dC (.int 1)))) (dB (dOp rGt (dCB dw (ag (ah 4) aw)) (dC (.int 60)))))) (bb (dC (.bool false))) bA)
 (bb (dCB vV (ag (nN [none,some 0] (gR (ah 4)) (ao 0) gp (az qU (ag (ah 1) (ag (ah 0) aw)))) aw)))))))
section
variable {Z:Mu}{Qd:DK}{ds:List D}
theorem vy{d:Int}{xs:List PyData}(h:xs.length≠4):ji d (.tuple xs)=false:=by
 match xs,h with
 |[],_=>rfl
 |[_],_=>rfl
 |[_,_],_=>rfl
 |[_,_,_],_=>rfl
 |[_,_,_,_],h=>exact absurd rfl h
 |_::_::_::_::_::_,_=>rfl
theorem uR{d:Int}{p:PyData}(h:¬ ∃xs,p = .tuple xs):ji d p=false:=by cases p<;>first|rfl|exact absurd ⟨_,rfl⟩ h
theorem ml{p:PyData}(h:¬ ∃xs,p = .tuple xs):isT "tuple" p=false:=by cases p<;>first|rfl|exact absurd ⟨_,rfl⟩ h
theorem BZ{α:Type}{xs:List α}(hl:xs.length=4):∃a b c d,xs=[a,b,c,d]:=by
 match xs,hl with
 |[a,b,c,d],_=>exact⟨a,b,c,d,rfl⟩
theorem wY{d:Int}{a b c e:PyData}:ji d (.tuple [a,b,c,e])=((isNum a&&(isNum b&&(decide (0<=sg d (numAt a).a (numAt a).b)&&decide (0<=sg d (numAt b).a (numAt b).b))))&&(bR d c&&bR d e)):=rfl
theorem p7{x:N3}:numAt (dN x)=x:=rfl
theorem FO(h:qU ds Z Qd):rN ‹Qd› (aL ["d","thing","x","y","width","height"] ds) Z:=by
 obtain⟨d,t,rfl,hd,ht4,q⟩:=h
 unfold rN
 walk_at "rn"
 by_cases ht:∃xs,t = .tuple xs
 ·obtain⟨xs,rfl⟩:=ht
  rw[if_neg (by rw[show isT "tuple" (.tuple xs)=true from rfl];decide)]
  walk_at "rn"
  by_cases l4:xs.length=4
  ·obtain⟨a,b,c,e,rfl⟩:=BZ l4
   rw[if_neg (by simp)]
   obtain⟨pa,pb,pc,pe⟩:=ht4 a b c e rfl
   rw[wY] at q
   walk_at "rn"
   refine⟨trivial,a,rfl,pa.1,?_⟩
   dsimp only
   cases na:isNum a with
   |false=>rw[if_pos ⋯];rw[na] at q;exact q
   |true=>
    rw[if_neg ⋯]
    rw[na,Bool.true_and] at q
    refine⟨b,rfl,pb.1,?_⟩
    dsimp only
    cases nb:isNum b with
    |false=>rw[if_pos ⋯];rw[nb] at q;exact q
    |true=>
     rw[if_neg ⋯]
     rw[nb,Bool.true_and] at q
     obtain⟨x,rfl,ox⟩:=dy na
     obtain⟨y,rfl,oy⟩:=dy nb
     rw[p7,p7] at q
     refine⟨d,x,rfl,hd,(pa.2 x rfl).mono ⋯,?_⟩
     walk_at "rn"
     by_cases cx:0<=sg d x.a x.b
     ·rw[if_neg (by simp;omega)]
      rw[decide_eq_true cx,Bool.true_and] at q
      refine⟨d,y,rfl,hd,(pb.2 y rfl).mono ⋯,?_⟩
      walk_at "rn"
      by_cases cy:0<=sg d y.a y.b
      ·rw[if_neg (by simp;omega)]
       rw[decide_eq_true cy,Bool.true_and] at q
       refine⟨d,c,rfl,hd,pc.1,fun x e=>(pc.2 x e).mono ⋯,?_⟩
       dsimp only
       cases ac:bR d c with
       |false=>rw[if_neg ⋯];rw[ac] at q;exact q
       |true=>
        rw[if_pos rfl]
        rw[ac,Bool.true_and] at q
        exact⟨d,e,rfl,hd,pe.1,fun x e=>(pe.2 x e).mono ⋯,q⟩
      ·rw[if_pos (by simp;omega)]
       rw[decide_eq_false cy] at q
       exact q
     ·rw[if_pos (by simp;omega)]
      rw[decide_eq_false cx] at q
      exact q
  ·rw[if_pos (by simp;omega)]
   rw[vy l4] at q
   exact q
 ·rw[if_pos (by rw[ml ht];rfl)]
  rw[uR ht] at q
  exact q
theorem uK{d:Int}{xs:List PyData}(h:xs.length≠3):lC d (.tuple xs)=false:=by
 match xs,h with
 |[],_=>rfl
 |[_],_=>rfl
 |[_,_],_=>rfl
 |[_,_,_],h=>exact absurd rfl h
 |_::_::c::_::_,_=>cases c<;>rfl
theorem u9{d:Int}{p:PyData}(h:¬ ∃xs,p = .tuple xs):lC d p=false:=by cases p<;>first|rfl|exact absurd ⟨_,rfl⟩ h
theorem xj{d:Int}{a b c:PyData}(h:¬ ∃ts,c = .tuple ts):lC d (.tuple [a,b,c])=false:=by cases c<;>first|rfl|exact absurd ⟨_,rfl⟩ h
theorem yZ{α:Type}{xs:List α}(hl:xs.length=3):∃a b c,xs=[a,b,c]:=by
 match xs,hl with
 |[a,b,c],_=>exact⟨a,b,c,rfl⟩
theorem pP{f:PyData->Bool}:∀(xs:List PyData),cX (xs.filterMap fun x=>some (.bool (f x)))=some (xs.map f)
 |[]=>rfl
 |x::xs=>by
  rw[filterMap_cons]
  simp only[cX,pP xs,map_some,map_cons]
theorem FA(h:xg ds Z Qd):oP ‹Qd› (aL ["d","thing","width","height","tiles"] ds) Z:=by
 obtain⟨d,t,rfl,hd,ft,q⟩:=h
 unfold oP
 walk_at "rn"
 by_cases ht:∃xs,t = .tuple xs
 ·obtain⟨xs,rfl⟩:=ht
  rw[if_neg (by rw[show isT "tuple" (.tuple xs)=true from rfl];decide)]
  walk_at "rn"
  by_cases l3:xs.length=3
  ·obtain⟨a,b,c,rfl⟩:=yZ l3
   rw[if_neg (by simp)]
   obtain⟨pa,pb,pc⟩:=ft a b c rfl
   walk_at "rn"
   have qf:(∃ts,c = .tuple ts)\/Qd (.v (.bool false)) Z:=by
    by_cases hc:∃ts,c = .tuple ts
    ·exact .inl hc
    ·rw[xj hc] at q;exact .inr q
   have q3:∀ts,c = .tuple ts->Qd (.v (.bool (bR d a&&(bR d b&&(decide (1<=ts.length)&&(decide (ts.length<=60)&&ts.all (ji d))))))) Z:=fun ts e=>by subst e;exact q
   refine⟨trivial,d,a,rfl,hd,pa.1,fun x e=>(pa.2 x e).mono ⋯,?_⟩
   dsimp only
   cases aa:bR d a with
   |false=>
    rw[if_pos ⋯]
    rcases qf with ⟨ts,e⟩|qf
    ·have:=q3 ts e;rw[aa] at this;exact this
    ·exact qf
   |true=>
    rw[if_neg ⋯]
    refine⟨d,b,rfl,hd,pb.1,fun x e=>(pb.2 x e).mono ⋯,?_⟩
    dsimp only
    cases ab:bR d b with
    |false=>
     rw[if_pos ⋯]
     rcases qf with ⟨ts,e⟩|qf
     ·have:=q3 ts e;rw[aa,ab] at this;exact this
     ·exact qf
    |true=>
     rw[if_neg ⋯]
     by_cases hc:∃ts,c = .tuple ts
     ·obtain⟨ts,rfl⟩:=hc
      have q4:=q3 ts rfl
      rw[aa,ab,Bool.true_and,Bool.true_and] at q4
      rw[if_neg (by rw[show isT "tuple" (.tuple ts)=true from rfl];decide)]
      walk_at "rn"
      by_cases c1:1<=ts.length
      ·rw[if_neg (by simp;omega)]
       rw[decide_eq_true c1,Bool.true_and] at q4
       by_cases c2:ts.length<=60
       ·rw[if_neg (by simp;omega)]
        rw[decide_eq_true c2,Bool.true_and] at q4
        obtain⟨tl,gt⟩:=pc ts rfl
        refine⟨tl,fun x=>some (.bool (ji d x)),fun x hx U _=>⟨⟨trivial,trivial⟩,d,x,rfl,hd,gt x hx,rfl,rfl⟩,?_⟩
        rw[pP]
        dsimp only
        have ea:(ts.map (ji d)).all id=ts.all (ji d):=by simp[all_map]
        rw[ea]
        exact q4
       ·rw[if_pos (by simp;omega)]
        rw[decide_eq_false c2] at q4
        exact q4
      ·rw[if_pos (by simp;omega)]
       rw[decide_eq_false c1] at q4
       exact q4
     ·rw[if_pos (by rw[ml hc];rfl)]
      rw[xj hc] at q
      exact q
  ·rw[if_pos (by simp;omega)]
   rw[uK l3] at q
   exact q
 ·rw[if_pos (by rw[ml ht];rfl)]
  rw[u9 ht] at q
  exact q
end
structure Tl where
 x:N3
 y:N3
 w:N3
 h:N3
noncomputable def tlD(t:Tl):PyData:=.tuple [dN t.x,dN t.y,dN t.w,dN t.h]
structure Se(d:Int)(t:Tl):Prop where
 ox:Ok t.x
 oy:Ok t.y
 ow:Ok t.w
 oh:Ok t.h
 bx:Bd 2100 t.x
 by_:Bd 2100 t.y
 bw:Bd 2100 t.w
 bh:Bd 2100 t.h
noncomputable def vt(t:Tl):PyData:=.tuple [dN t.x,dN (plus t.x t.w),dN t.y,dN (plus t.y t.h)]
noncomputable def pV:DSp:=fun ds Z Q=>∃(d:Int) (t:Tl),ds=[.v (tlD t)]/\Se d t/\Q (.v (vt t)) Z
theorem zU{ds:List D}{Z:Mu}{Q:DK}(h:pV ds Z Q):ds.length=1:=by obtain⟨_,_,rfl,_⟩:=h;rfl
noncomputable def gF(ms:List N3)(e:N3):Bool:=decide (ms.head? = some ax)&&decide (ms.getLast? = some e)
noncomputable def tQ:DSp:=fun ds Z Q=>∃(ms:List N3) (e:N3),ds=[.v (.list (ms.map dN)),.v (dN e)]/\ms≠[]/\Q (.v (.bool (gF ms e))) Z
theorem ER{ds:List D}{Z:Mu}{Q:DK}(h:tQ ds Z Q):ds.length=2:=by obtain⟨_,_,rfl,_⟩:=h;rfl
noncomputable def mW:DTS:=
 (aK (bc (ah 0) (bU 4 (aA (ao 1) (aA (ao 2) (aA (ao 3) (aA (ao 4) bY))))))
 (bb (bT (ag (ah 1) (ag (az iZ (ag (ah 1) (ag (ah 3) aw))) (ag (ah 2) (ag (az iZ (ag (ah 2) (ag (ah 4) aw))) aw)))))))
noncomputable def jc:DTS:=
 (bb (kA (dOp (cM false) (dOp aM (ah 0) (dC (.int 0))) (dC (.tuple [.int 0,.int 0,.int 1]))) (dOp (cM false) (dOp aM (ah 0) (qL (dC (.int 1)))) (ah 1))))
section
variable {Z:Mu}{Qd:DK}{ds:List D}
theorem CB(h:pV ds Z Qd):mW ‹Qd› (aL ["tile","x","y","width","height"] ds) Z:=by
 obtain⟨d,t,rfl,o,q⟩:=h
 unfold mW tlD
 walk_at "rn"
 refine⟨trivial,t.x,t.w,rfl,o.ox,o.ow,o.bx.mono ⋯,o.bw.mono ⋯,?_⟩
 walk_at "rn"
 refine⟨t.y,t.h,rfl,o.oy,o.oh,o.by_.mono ⋯,o.bh.mono ⋯,?_⟩
 walk_at "rn"
 exact q
theorem oE{ms:List N3}{l:N3}(h:ms.getLast? = some l):atI (ms.map dN) (-1)=some (dN l):=by
 obtain⟨ys,rfl⟩:∃ys,ms=ys++[l]:=by
  have hn:ms≠[]:=fun e=>by rw[e] at h;cases h
  refine⟨ms.dropLast,?_⟩
  rw[List.getLast?_eq_getLast hn] at h
  have e:=List.dropLast_concat_getLast hn
  rw[Option.some.inj h] at e
  exact e.symm
 rw[map_append]
 unfold atI ixN
 have e:(ys.map dN++[dN l]).length=ys.length+1:=by simp
 rw[show List.map dN [l]=[dN l] from rfl,e]
 split
 ·omega
 ·rw[if_pos ∅]
  have z:(-1+((ys.length+1:Nat):Int)).toNat=ys.length:=by omega
  simp only[bind_some]
  rw[z]
  simp
theorem wd(h:tQ ds Z Qd):jc ‹Qd› (aL ["marks","end"] ds) Z:=by
 obtain⟨ms,e,rfl,hn,q⟩:=h
 unfold jc
 obtain⟨l,hl⟩:∃l,ms.getLast? = some l:=⟨ms.getLast hn,List.getLast?_eq_getLast hn⟩
 obtain⟨f,r,rfl⟩:∃f r,ms=f::r:=by
  cases ms with
  |nil=>exact absurd rfl hn
  |cons f r=>exact⟨f,r,rfl⟩
 walk_at "rn"
 have er:gF (f::r) e=(decide (f=⟨0,0,1⟩)&&decide (l=e)):=by
  unfold gF
  rw[hl]
  congr 1
  ·rw[List.head?_cons]
   simp only[Option.some.injEq]
   rfl
  ·simp only[Option.some.injEq]
 rw[er] at q
 by_cases c:f=⟨0,0,1⟩
 ·rw[if_pos (decide_eq_true c),<- show (f::r).map dN=dN f::r.map dN from rfl,oE hl]
  dsimp only
  rw[Ie,false_xor]
  rw[decide_eq_true c,Bool.true_and] at q
  exact q
 ·rw[if_neg (by simpa using c)]
  rw[decide_eq_false c] at q
  exact q
end
section
variable {Z:Mu}{d:D}{Q:DK}
theorem Nz{a b c f g h k l m n n11}{o:Rho}:ah 11 (a::b::c::f::g::h::k::l::m::n::n11::some d::o) Z Q=Q d Z:=propext Iff.rfl
theorem Nv{a b c f g h k l m n n11 n12}{o:Rho}:ah 12 (a::b::c::f::g::h::k::l::m::n::n11::n12::some d::o) Z Q=Q d Z:=propext Iff.rfl
theorem Ni{a b c f g h k l m n n11 n12 n13}{o:Rho}:ah 13 (a::b::c::f::g::h::k::l::m::n::n11::n12::n13::some d::o) Z Q=Q d Z:=propext Iff.rfl
theorem MH{to te:DTE}{ρ:Rho}{Z:Mu}{Q:DK}:G4 to te ρ Z Q=to ρ Z fun x ad=>match x with
 |.m l=>te ρ ad fun y am=>(match y,am l with
  |.v (.int i),some xs=>(0<=i/\i<1000)/\∃d,xs[i.toNat]? = some d/\Q (.v d) (aD am l (xs.eraseIdx i.toNat))
  |_,_=>False)
 |_=>False:=propext Iff.rfl
end
noncomputable def Bq(x:N3):List Int:=[x.a,x.b,x.c]
theorem KW{x y:N3}(h:Bq x=Bq y):x=y:=by
 cases x;cases y
 unfold Bq at h
 simp only[List.cons.injEq,and_true] at h
 obtain⟨rfl,rfl,rfl⟩:=h
 rfl
theorem Cb{d:Int}{x:N3}(hd:aJ d):dif d x x≠1:=fun h=>by
 have:=dif_neg (x:=x) (y:=x) hd
 omega
theorem fw{d:Int}{P:List N3}(hd:aJ d)(h:da d P):P.Nodup:=by
 unfold List.Nodup
 refine List.Pairwise.imp (fun {a b} z (e:a=b)=>?_) h
 subst e
 exact Cb hd z
structure iN(d:Int)(P fs:List N3):Prop where
 up:da d P
 mem:∀x,x∈P↔x∈fs
noncomputable def ents(P:List N3):List (List Int×PyData):=P.zipIdx.map fun x=>(Bq x.1,.int (x.2:Nat))
theorem IS{P:List N3}{x:N3}:ents (P++[x])=ents P++[(Bq x,.int (P.length:Nat))]:=by
 unfold ents
 rw[List.zipIdx_append,map_append]
 simp
theorem Kt{P:List N3}:(ents P).length=P.length:=by unfold ents;simp
noncomputable def book(P:List N3):List (List Int×PyData):=putAll (ents P)
theorem Bi{P:List N3}{x:N3}:book (P++[x])=i5 (book P) (Bq x) (.int (P.length:Nat)):=by unfold book;rw[IS,putAll_snoc]
theorem J0{P:List N3}:(book P).length<=P.length:=by unfold book;have:=x5 (ents P);rw[Kt] at this;exact this
theorem snoc_ind{α:Type}{p:List α->Prop}(h0:p [])(h1:∀l x,p l->p (l++[x]))(l:List α):p l:=by
 rw[<- List.reverse_reverse l]
 generalize l.reverse=r
 induction r with
 |nil=>exact h0
 |cons a r ih=>rw[List.reverse_cons];exact h1 _ _ ih
theorem jA{x:N3}(P:List N3):P.Nodup->x∈P->bX (book P) (Bq x)=some (.int (P.idxOf x:Nat)):=by
 refine snoc_ind (p:=fun P=>P.Nodup->x∈P->bX (book P) (Bq x)=some (.int (P.idxOf x:Nat))) (fun _ h=>absurd h not_mem_nil) (fun P y ih hn hx=>?_) P
 rw[Bi,Jz]
 have hn':=List.nodup_append.mp hn
 rw[List.idxOf_append]
 by_cases e:x=y
 ·subst e
  have hxp:x ∉ P:=fun m=>hn'.2.2 x m x mem_cons_self rfl
  rw[if_pos rfl,if_neg hxp,List.idxOf_cons_self,Nat.zero_add]
 ·have hxp:x∈P:=by
   rcases List.mem_append.mp hx with m|m
   ·exact m
   ·exact absurd (List.mem_singleton.mp m) e
  rw[if_neg (fun z=>e (KW z)),if_pos hxp,ih hn'.1 hxp]
noncomputable def IH:PyData->Option (List Int×PyData)
 |.tuple [i,.tuple [.int a,.int b,.int c]]=>some ([a,b,c],i)
 |_=>none
theorem Bn(P:List N3):(jM 0 (P.map dN)).filterMap IH=ents P:=by
 unfold ents
 have h:∀j,(jM j (P.map dN)).filterMap IH=(P.zipIdx j).map fun x=>(Bq x.1,PyData.int (x.2:Nat)):=by
  induction P with
  |nil=>intro j;rfl
  |cons x P ih=>
   intro j
   rw[map_cons,List.zipIdx_cons,map_cons,<- ih]
   rfl
 exact h 0
theorem Ds{P:List N3}{x:PyData}(h:x∈jM 0 (P.map dN)):∃(i:Nat) (m:N3),x = .tuple [.int (i:Nat),dN m]/\m∈P:=by
 have k:∀j,x∈jM j (P.map dN)->∃(i:Nat) (m:N3),x = .tuple [.int (i:Nat),dN m]/\m∈P:=by
  clear h
  induction P with
  |nil=>intro j h;exact absurd h not_mem_nil
  |cons y P ih=>
   intro j h
   rw[map_cons] at h
   rcases List.mem_cons.mp h with rfl|h
   ·exact⟨j,y,rfl,mem_cons_self⟩
   ·obtain⟨i,m,e,hm⟩:=ih _ h
    exact⟨i,m,e,mem_cons_of_mem _ hm⟩
 exact k 0 h
theorem tm{xs:List PyData}:(jM 0 xs).length=xs.length:=by
 have h:∀j,(jM j xs).length=xs.length:=by
  induction xs with
  |nil=>intro j;rfl
  |cons y P ih=>intro j;show (jM (j+1) P).length+1=_;rw[ih];rfl
 exact h 0
noncomputable def cp(P Q:List N3)(t:Tl):GR.Bx:=⟨P.idxOf t.x,P.idxOf (plus t.x t.w),Q.idxOf t.y,Q.idxOf (plus t.y t.h)⟩
structure OnM(P Q:List N3)(t:Tl):Prop where
 l:t.x∈P
 r:plus t.x t.w∈P
 b:t.y∈Q
 t:plus t.y t.h∈Q
noncomputable def eR(x:Nat×Nat):List Int:=[(x.1:Nat),(x.2:Nat)]
theorem Ed{x y:Nat×Nat}(h:eR x=eR y):x=y:=by
 unfold eR at h
 simp only[List.cons.injEq,and_true,Int.natCast_inj] at h
 exact Prod.ext h.1 h.2
theorem xG{x:Nat×Nat}{l:List (Nat×Nat)}:eR x∈l.map eR↔x∈l:=by
 rw[mem_map]
 constructor
 ·rintro ⟨y,h,e⟩;exact Ed e▸h
 ·intro h;exact⟨x,h,rfl⟩
theorem qh{α β:Type}{f:α->List β}{l:List α}{i:Nat}{x:α}(h:l[i]? = some x):(l.take (i+1)).flatMap f=(l.take i).flatMap f++f x:=by
 rw[take_succ,h,flatMap_append]
 simp
theorem rV{α β:Type}{f:α->List β}{l:List α}{i:Nat}:(l.take i).flatMap f <+: l.flatMap f:=by
 conv=>rhs;rw[<- List.take_append_drop i l,flatMap_append]
 exact List.prefix_append _ _
theorem BF{a b i:Nat}(h:i<b-a):(GR.run a b)[i]? = some (a+i):=by
 unfold GR.run
 rw[getElem?_map,List.getElem?_range h]
 rfl
local macro_rules|`(tactic| walk_at "rb")=>mkW "NL Q4 P1 ↓Sq ↓l_t ↓l_f l_T l_F Sh Sf LC decide_true decide_false Bool.xor_true Bool.true_xor ↓GZ ↓FT ↓FD ↓Gu ↓GB ↓FW ↓GF ↓GQ ↓FL ↓GV ↓B9 ↓q_c ↓R4 ↓q_B ↓Pc ↓Mr ↓Lw ↓O0 ↓Ro ↓Ga ↓Oy ↓G8 ↓Si ↓KA ↓Gz ↓Kp ↓Lc ↓Hk ↓LH ↓Kb ↓Mj ↓Ip ↓Ki ↓FJ ↓Gk ↓GA ↓Dc ↓Cn ↓Cq ↓FP ↓A7 ↓xy ↓Lm ↓KN ↓MC ↓Sb ↓FK ↓GS ↓Gd ↓Ha ↓LM ↓OX ↓G6 ↓KL ↓La ↓BI ↓Gf ↓C1 ↓FY ↓GX ↓QC ↓Lv ↓Hl ↓LA ↓Ls ↓GY ↓RF ↓B0 ↓PY ↓K1 ↓Lf ↓Np ↓GG ↓yL ↓CQ ↓yE ↓x9 ↓BU ↓yx ↓yb ↓K7 rQ FZ Gv Mh Mi LL Option.bind_none bind_some join_some List.getElem?_cons_zero List.getElem?_cons_succ aL Og MD Kz LF Ie xU A1 AU Fg IB map_cons map_nil List.append List.replicate length_cons length_nil Nat.reduceAdd Nat.reduceSub List.nil_append cons_append List.set_cons_zero List.set_cons_succ map_some Bool.not_true Bool.not_false false_eq_true Bool.true_eq_false xor_false false_xor ↓Nz ↓Nv ↓Ni ↓MH ↓Me ↓JW ↓Pz ↓Rg ↓Pm ↓J3"
noncomputable def J2(P Q:List N3)(ts:List Tl):Prop:=P.Nodup/\Q.Nodup/\P≠[]/\Q≠[]/\P.length<=900/\Q.length<=900/\ts.length<=900/\(∀t∈ts,OnM P Q t)/\(P.length-1)*(Q.length-1)<=9000
noncomputable def u6:DSp:=fun ds Z K=>∃(P Q:List N3) (ts:List Tl),ds=[.v (.list (ts.map vt)),.v (.list (P.map dN)),.v (.list (Q.map dN))]/\J2 P Q ts /\
 ∀U,dE Z U->K (.v (.bool (GR.qo (ts.map (cp P Q)) (P.length-1) (Q.length-1)))) U
noncomputable def zh:DSp:=fun ds Z K=>∃(P Q:List N3) (ts:List Tl),ds=[.v (.list (ts.map vt)),.v (.list (P.map dN)),.v (.list (Q.map dN))]/\J2 P Q ts /\
 K (.v (.bool (GR.qo (ts.map (cp P Q)) (P.length-1) (Q.length-1)))) Z
theorem Aq{ds:List D}{Z:Mu}{Q:DK}(h:u6 ds Z Q):ds.length=3:=by obtain⟨_,_,_,rfl,_⟩:=h;rfl
theorem wK{ds:List D}{Z:Mu}{Qd:DK}(h:zh ds Z Qd):u6 ds Z (frz Z Qd):=by
 obtain⟨P,Q,ts,rfl,pre,q⟩:=h
 exact⟨P,Q,ts,rfl,pre,fun U sb=>⟨sb,q⟩⟩
noncomputable def qe:DSp:=fun ds Z Q=>∃(d:Int) (fs:List N3),ds=[.v (.int d),.v (.list (fs.map dN))]/\aJ d/\(∀m∈fs,Ok m/\Bd 4400 m)/\fs.length<=1000 /\
 ∀ms,iN d ms fs->Q (.v (.list (ms.map dN))) Z
theorem uM{ds:List D}{Z:Mu}{Qd:DK}(h:qe ds Z Qd):yW ds Z (frz Z Qd):=by
 obtain⟨d,fs,rfl,hd,g,hl,q⟩:=h
 exact⟨d,fs,rfl,hd,g,hl,fun p ms U hp sb hm hr hms=>⟨⟨hp,sb⟩,_,hm,q ms ⟨hr,hms⟩⟩⟩
noncomputable def jK:DTS:=
 (aK (bc (vF [none,none] (yD (ag (ah 1) aw)) (bU 2 (aA (ao 0) (aA (ao 1) bY))) gp (ah 1) (ah 0)) (ao 3))
 (aK (bc (vF [none,none] (yD (ag (ah 2) aw)) (bU 2 (aA (ao 0) (aA (ao 1) bY))) gp (ah 1) (ah 0)) (ao 4))
 (aK (bc Br (ao 5))
 (aK (nU (jd (ah 0)) (bU 4 (aA (ao 6) (aA (ao 7) (aA (ao 8) (aA (ao 9) bY))))) (nU (qN (ag (Fx (ah 3) (ah 6)) (ag (Fx (ah 3) (ah 7)) aw))) (ao 10) (nU (qN (ag (Fx (ah 4) (ah 8)) (ag (Fx (ah 4) (ah 9)) aw))) (ao 11) (aK (cF (dB (dOp (D5 false) (bT (ag (ah 10) (ag (ah 11) aw))) (ah 5))) (bb (dC (.bool false))) bA)
 (nE (LW (ah 5) (bT (ag (ah 10) (ag (ah 11) aw)))))))))
 (bb (dOp (cM false) (dCB IG (ag (ah 5) aw)) (d3 (oq (dCB dw (ag (ah 1) aw)) (dC (.int 1))) (oq (dCB dw (ag (ah 2) aw)) (dC (.int 1))))))))))
section
variable {Z:Mu}{Qd:DK}{ds:List D}
structure AZ(Z:Mu)(P Q:List N3)(pc pr ps:Addr)(done:List (Nat×Nat))(U:Mu):Prop where
 sub:dE Z U
 nc:Z.b pc=none
 nr:Z.b pr=none
 ns:Z.b ps=none
 c:U.b pc=some (.dict (book P))
 r:U.b pr=some (.dict (book Q))
 s:U.b ps=some (.set (done.map eR))
 nodup:done.Nodup
 sc:pc≠ps
 sr:pr≠ps
theorem AZ.put{Z U:Mu}{P Q:List N3}{pc pr ps:Addr}{done:List (Nat×Nat)}{x:Nat×Nat}(h:AZ Z P Q pc pr ps done U)(hx:x ∉ done):AZ Z P Q pc pr ps (done++[x]) (bo U ps (.set (done.map eR++[eR x]))) where
 sub:=h.sub.box h.ns
 nc:=h.nc
 nr:=h.nr
 ns:=h.ns
 c:=by rw[bW h.sc];exact h.c
 r:=by rw[bW h.sr];exact h.r
 s:=by rw[ba,map_append];rfl
 nodup:=List.nodup_append.mpr ⟨h.nodup,by simp,fun a ha b hb e=>hx (by rw[List.mem_singleton.mp hb] at e;exact e▸ha)⟩
 sc:=h.sc
 sr:=h.sr
theorem Hm{P Q:List N3}{ts:List Tl}(on:∀t∈ts,OnM P Q t):∀q∈ts.map (cp P Q),q.r<=P.length-1/\q.t<=Q.length-1:=fun q hq=>by
 obtain⟨t,ht,rfl⟩:=List.mem_map.mp hq
 have a:=GR.dc (on t ht).r
 have b:=GR.dc (on t ht).t
 show P.idxOf _<=_/\Q.idxOf _<=_
 omega
theorem sub_len{qs:List GR.Bx}{C R:Nat}(hin:∀q∈qs,q.r<=C/\q.t<=R){done:List (Nat×Nat)}(hn:done.Nodup)(hp:∀x∈done,x∈GR.cells qs):done.length<=C*R:=by
 rw[<- GR.sX]
 refine GR.pig hn fun x hx=>?_
 obtain⟨q,hq,h⟩:=GR.jC.mp (hp x hx)
 obtain⟨h1,h2⟩:=hin q hq
 exact GR.bN.mpr ⟨zero_le _,lt_of_lt_of_le h.2.1 h1,zero_le _,lt_of_lt_of_le h.2.2.2 h2⟩
theorem ug{a b:Nat}:(GR.run a b).take (b-a)=GR.run a b:=List.take_of_length_le (by rw[GR.qc];exact le_refl _)
theorem xn(h:u6 ds Z Qd):jK ‹Qd› (aL ["bounds","across","upward","columns","rows","covered","left","right","bottom","top","column","row"] ds) Z:=by
 obtain⟨P,Q,ts,rfl,⟨np,nq,p0,q0,lp,lq,lt,on,few⟩,q⟩:=h
 unfold jK
 walk_at "rb"
 rw[Ho]
 walk_at "rb"
 refine⟨by rw[tm,length_map];omega,IH,?_,?_⟩
 ·intro x hx U _
  obtain⟨i,m,rfl,_⟩:=Ds hx
  walk_at "rb"
  refine⟨trivial,trivial,?_⟩
  rw[if_pos trivial]
  exact⟨trivial,_,_,rfl,rfl,rfl⟩
 rw[Bn]
 intro pc hpc
 rw[Ho]
 walk_at "rb"
 refine⟨by rw[tm,length_map];omega,IH,?_,?_⟩
 ·intro x hx U _
  obtain⟨i,m,rfl,_⟩:=Ds hx
  walk_at "rb"
  refine⟨trivial,trivial,?_⟩
  rw[if_pos trivial]
  exact⟨trivial,_,_,rfl,rfl,rfl⟩
 rw[Bn]
 intro pr hpr ps hps
 have rc:pr≠pc:=fun e=>by rw[e,ba] at hpr;cases hpr
 have sr:ps≠pr:=fun e=>by rw[e,ba] at hps;cases hps
 have sc:ps≠pc:=fun e=>by rw[e,bW rc.symm,ba] at hps;cases hps
 have hpr':Z.b pr=none:=by rw[bW rc] at hpr;exact hpr
 have hps':Z.b ps=none:=by rw[bW sr,bW sc] at hps;exact hps
 rw[jj]
 walk_at "rb"
 have fits:=Hm on
 refine⟨fun i ρ U=>∃r6 r7 r8 r9 r10 r11,ρ=[some (.v (.list (ts.map vt))),some (.v (.list (P.map dN))),some (.v (.list (Q.map dN))),some (.b pc),some (.b pr),some (.b ps),r6,r7,r8,r9,r10,r11]/\AZ Z P Q pc pr ps (GR.cells ((ts.map (cp P Q)).take i)) U,
  ⟨_,_,_,_,_,_,rfl,⟨((dE.refl.box hpc).box hpr').box hps',hpc,hpr',hps',by rw[bW sc.symm,bW rc.symm,ba];rfl,by rw[bW sr.symm,ba];rfl,by rw[ba];rfl,List.nodup_nil,sc.symm,sr.symm⟩⟩,?_,?_⟩
 ·rintro i x ρ U hx ⟨r6,r7,r8,r9,r10,r11,rfl,st⟩
  obtain⟨t,et,rfl⟩:∃t,ts[i]? = some t/\x=vt t:=by
   rw[getElem?_map] at hx
   cases e:ts[i]? with
   |none=>rw[e] at hx;cases hx
   |some t=>rw[e] at hx;exact⟨t,rfl,(Option.some.inj hx).symm⟩
  have o:=on t (mem_of_getElem? et)
  have eb:(ts.map (cp P Q))[i]? = some (cp P Q t):=by rw[getElem?_map,et];rfl
  have ea:GR.cells ((ts.map (cp P Q)).take (i+1))=GR.cells ((ts.map (cp P Q)).take i)++GR.cellsOf (cp P Q t):=qh eb
  have pa:GR.cells ((ts.map (cp P Q)).take (i+1)) <+: GR.cells (ts.map (cp P Q)):=rV
  rw[show vt t = .tuple [dN t.x,dN (plus t.x t.w),dN t.y,dN (plus t.y t.h)] from rfl]
  walk_at "rb"
  refine⟨trivial,?_⟩
  rw[jj]
  walk_at "rb"
  refine⟨pc,_,_,_,rfl,rfl,st.c,jA P np o.l,pc,_,_,_,rfl,rfl,st.c,jA P np o.r,?_⟩
  have e1:=GR.dc o.l
  have e2:=GR.dc o.r
  have e3:=GR.dc o.b
  have e4:=GR.dc o.t
  walk_at "rb"
  refine⟨∅,fun c ρ U=>∃r10 r11,ρ=[some (.v (.list (ts.map vt))),some (.v (.list (P.map dN))),some (.v (.list (Q.map dN))),some (.b pc),some (.b pr),some (.b ps),some (.v (dN t.x)),some (.v (dN (plus t.x t.w))),some (.v (dN t.y)),some (.v (dN (plus t.y t.h))),r10,r11] /\
   AZ Z P Q pc pr ps (GR.cells ((ts.map (cp P Q)).take i)++((GR.run (P.idxOf t.x) (P.idxOf (plus t.x t.w))).take c).flatMap fun a=>(GR.run (Q.idxOf t.y) (Q.idxOf (plus t.y t.h))).map fun b=>(a,b)) U,⟨_,_,rfl,by rw[take_zero,List.flatMap_nil,append_nil];exact st⟩,?_,?_⟩
  ·rintro c x ρ am hx2 ⟨s10,s11,rfl,st2⟩
   obtain⟨rfl,hc⟩:=tU hx2
   have ec:(GR.run (P.idxOf t.x) (P.idxOf (plus t.x t.w)))[c]? = some (P.idxOf t.x+c):=BF ∅
   have eb2:GR.cells ((ts.map (cp P Q)).take i)++((GR.run (P.idxOf t.x) (P.idxOf (plus t.x t.w))).take (c+1)).flatMap (fun a=>(GR.run (Q.idxOf t.y) (Q.idxOf (plus t.y t.h))).map fun b=>(a,b))=(GR.cells ((ts.map (cp P Q)).take i)++((GR.run (P.idxOf t.x) (P.idxOf (plus t.x t.w))).take c).flatMap fun a=>(GR.run (Q.idxOf t.y) (Q.idxOf (plus t.y t.h))).map fun b=>(a,b))++(GR.run (Q.idxOf t.y) (Q.idxOf (plus t.y t.h))).map fun b=>(P.idxOf t.x+c,b):=by
    rw[qh ec,append_assoc]
   have pb:GR.cells ((ts.map (cp P Q)).take i)++((GR.run (P.idxOf t.x) (P.idxOf (plus t.x t.w))).take (c+1)).flatMap (fun a=>(GR.run (Q.idxOf t.y) (Q.idxOf (plus t.y t.h))).map fun b=>(a,b)) <+: GR.cells ((ts.map (cp P Q)).take (i+1)):=by
    rw[ea]
    exact (List.prefix_append_right_inj _).mpr rV
   generalize GR.cells ((ts.map (cp P Q)).take i)++((GR.run (P.idxOf t.x) (P.idxOf (plus t.x t.w))).take c).flatMap (fun a=>(GR.run (Q.idxOf t.y) (Q.idxOf (plus t.y t.h))).map fun b=>(a,b))=pre at st2 eb2
   walk_at "rb"
   rw[jj]
   walk_at "rb"
   refine⟨pr,_,_,_,rfl,rfl,st2.r,jA Q nq o.b,pr,_,_,_,rfl,rfl,st2.r,jA Q nq o.t,?_⟩
   walk_at "rb"
   refine⟨∅,fun k ρ U=>∃r11,ρ=[some (.v (.list (ts.map vt))),some (.v (.list (P.map dN))),some (.v (.list (Q.map dN))),some (.b pc),some (.b pr),some (.b ps),some (.v (dN t.x)),some (.v (dN (plus t.x t.w))),some (.v (dN t.y)),some (.v (dN (plus t.y t.h))),some (.v (.int ((P.idxOf t.x:Nat)+(c:Nat)))),r11] /\
    AZ Z P Q pc pr ps (pre++((GR.run (Q.idxOf t.y) (Q.idxOf (plus t.y t.h))).take k).map fun b=>(P.idxOf t.x+c,b)) U,⟨_,rfl,by rw[take_zero,map_nil,append_nil];exact st2⟩,?_,?_⟩
   ·rintro k x ρ bi hx3 ⟨s11,rfl,st3⟩
    obtain⟨rfl,hk⟩:=tU hx3
    have ek:(GR.run (Q.idxOf t.y) (Q.idxOf (plus t.y t.h)))[k]? = some (Q.idxOf t.y+k):=BF ∅
    have es:pre++((GR.run (Q.idxOf t.y) (Q.idxOf (plus t.y t.h))).take (k+1)).map (fun b=>(P.idxOf t.x+c,b))=(pre++((GR.run (Q.idxOf t.y) (Q.idxOf (plus t.y t.h))).take k).map fun b=>(P.idxOf t.x+c,b))++[(P.idxOf t.x+c,Q.idxOf t.y+k)]:=by
     rw[take_succ,ek,map_append,append_assoc]
     rfl
    have pk:pre++((GR.run (Q.idxOf t.y) (Q.idxOf (plus t.y t.h))).take (k+1)).map (fun b=>(P.idxOf t.x+c,b)) <+: GR.cells (ts.map (cp P Q)):=by
     refine List.IsPrefix.trans ?_ (pb.trans pa)
     rw[eb2]
     exact (List.prefix_append_right_inj _).mpr (by rw[List.map_take];exact List.take_prefix _ _)
    have pk0:pre++((GR.run (Q.idxOf t.y) (Q.idxOf (plus t.y t.h))).take k).map (fun b=>(P.idxOf t.x+c,b)) <+: GR.cells (ts.map (cp P Q)):=List.IsPrefix.trans (by rw[es];exact List.prefix_append _ _) pk
    rw[es] at pk
    generalize pre++((GR.run (Q.idxOf t.y) (Q.idxOf (plus t.y t.h))).take k).map (fun b=>(P.idxOf t.x+c,b))=done at st3 es pk pk0
    have le:done.length<=9000:=le_trans (sub_len fits st3.nodup fun x hx=>pk0.subset hx) few
    have kc:nR (.v (.tuple [.int ((P.idxOf t.x:Nat)+(c:Nat)),.int ((Q.idxOf t.y:Nat)+(k:Nat))]))=some (eR (P.idxOf t.x+c,Q.idxOf t.y+k)):=by
     show some _=some _
     unfold eR
     simp only[Int.natCast_add]
    walk_at "rb"
    refine⟨_,ps,_,kc,rfl,st3.s,by show (done.map eR).length<=9800;rw[length_map];omega,fun z=>absurd z ⋯,?_⟩
    walk_at "rb"
    by_cases cc:(P.idxOf t.x+c,Q.idxOf t.y+k)∈done
    ·rw[bP (by show decide _=true;exact decide_eq_true (xG.mpr cc))]
     walk_at "rb"
     have e:GR.qo (ts.map (cp P Q)) (P.length-1) (Q.length-1)=false:=by
      unfold GR.qo
      rw[decide_eq_false,Bool.false_and]
      intro hn
      have:=List.nodup_append.mp (hn.sublist pk.sublist)
      exact this.2.2 _ cc _ mem_cons_self rfl
     rw[e] at q
     exact q _ st3.sub
    ·rw[bQ (by show ¬ decide _=true;rw[decide_eq_true_iff,xG];exact cc)]
     walk_at "rb"
     refine⟨ps,_,rfl,st3.s,_,_,kc,st3.s,by rw[length_map];omega,fun z=>cc (xG.mp z),?_⟩
     exact⟨_,rfl,by rw[es];exact st3.put cc⟩
   ·rintro ρ bi ⟨s11,rfl,st3⟩
    rw[mP,show ((Q.idxOf (plus t.y t.h):Nat)-(Q.idxOf t.y:Nat):Int).toNat=Q.idxOf (plus t.y t.h)-Q.idxOf t.y by omega,ug] at st3
    exact⟨_,_,rfl,by rw[eb2];exact st3⟩
  ·rintro ρ bi ⟨s10,s11,rfl,st3⟩
   rw[mP,show ((P.idxOf (plus t.x t.w):Nat)-(P.idxOf t.x:Nat):Int).toNat=P.idxOf (plus t.x t.w)-P.idxOf t.x by omega,ug] at st3
   exact⟨_,_,_,_,_,_,rfl,by rw[ea];exact st3⟩
 ·rintro ρ U ⟨r6,r7,r8,r9,r10,r11,rfl,st⟩
  rw[List.take_of_length_le (by rw[length_map,length_map];exact le_refl _)] at st
  have le:(GR.cells (ts.map (cp P Q))).length<=9000:=le_trans (sub_len fits st.nodup fun x hx=>hx) few
  walk_at "rb"
  refine⟨ps,_,rfl,st.s,by show (List.map eR _).length<=9800;rw[length_map];omega,?_⟩
  walk_at "rb"
  have:=q U st.sub
  have l1:0<P.length:=List.length_pos_iff.mpr p0
  have l2:0<Q.length:=List.length_pos_iff.mpr q0
  rw[length_map,length_map,show ((P.length:Nat):Int)-1=((P.length-1:Nat):Int) by omega,show ((Q.length:Nat):Int)-1=((Q.length-1:Nat):Int) by omega]
  refine⟨nO (Sz.of (n:=10) ∅) (Sz.of (n:=10) ∅) ⋯,?_⟩
  have e:decide (((EA (Box.set (List.map eR (GR.cells (List.map (cp P Q) ts)))):Nat):Int)=((P.length-1:Nat):Int)*((Q.length-1:Nat):Int))=GR.qo (List.map (cp P Q) ts) (P.length-1) (Q.length-1):=by
   unfold GR.qo
   rw[decide_eq_true st.nodup,Bool.true_and]
   refine decide_eq_decide.mpr ?_
   show ((List.map eR (GR.cells (List.map (cp P Q) ts))).length:Int)=_↔_
   rw[length_map,<- Int.natCast_mul,Int.natCast_inj]
  rw[e]
  exact this
end
structure rY(d:Int)(t:Tl):Prop where
 ox:Ok t.x
 oy:Ok t.y
 ow:Ok t.w
 oh:Ok t.h
 sx:0<=sg d t.x.a t.x.b
 sy:0<=sg d t.y.a t.y.b
 sw:sg d t.w.a t.w.b=1
 sh:sg d t.h.a t.h.b=1
structure vN(d:Int)(w h:N3)(ts:List Tl):Prop where
 ow:Ok w
 oh:Ok h
 sw:sg d w.a w.b=1
 sh:sg d h.a h.b=1
 some:1<=ts.length
 few:ts.length<=60
 tile:∀t∈ts,rY d t
noncomputable def cm(w h:N3)(ts:List Tl):PyData:=.tuple [dN w,dN h,.tuple (ts.map tlD)]
structure Bd4(n:Nat)(t:Tl):Prop where
 x:Bd n t.x
 y:Bd n t.y
 w:Bd n t.w
 h:Bd n t.h
noncomputable def IF(m:Nat)(ts:List Tl):Prop:=∃X Y:List N3,(∀t∈ts,OnM X Y t)/\X.length<=200/\Y.length<=200/\X.length*Y.length<=m
noncomputable def gS(ts:List Tl):List N3:=ts.flatMap fun t=>[t.x,plus t.x t.w]
noncomputable def gP(ts:List Tl):List N3:=ts.flatMap fun t=>[t.y,plus t.y t.h]
noncomputable def Lb(t:PyData):Prop:=Mv t/\∀w h ts,t=cm w h ts->Bd 2100 w/\Bd 2100 h/\(∀t∈ts,Bd4 2100 t)/\IF 8000 ts
noncomputable def HI(d:Int)(t:PyData)(b:Bool):Prop:=(lC d t=false->b=false)/\∀w h ts,t=cm w h ts->vN d w h ts ->
 ∃P Q,iN d P (gS ts)/\iN d Q (gP ts)/\b=(gF P w&&(gF Q h&&GR.qo (ts.map (cp P Q)) (P.length-1) (Q.length-1)))
noncomputable def tM:DSp:=fun ds Z K=>∃(d:Int) (t:PyData),ds=[.v (.int d),.v t]/\aJ d/\Lb t/\∀b,HI d t b->K (.v (.bool b)) Z
theorem BK{ds:List D}{Z:Mu}{Q:DK}(h:tM ds Z Q):ds.length=2:=by obtain⟨_,_,rfl,_⟩:=h;rfl
noncomputable def mN:DTS:=
 (aK (cF (du (dB (az xg (ag (ah 0) (ag (ah 1) aw))))) (bb (dC (.bool false))) bA)
 (aK (bc (ah 1) (bU 3 (aA (ao 2) (aA (ao 3) (aA (ao 4) bY)))))
 (aK (bc (jW [none] (gR (ah 4)) (ao 0) gp (az pV (ag (ah 0) aw))) (ao 5))
 (aK (bc (az qe (ag (ah 0) (ag (C2 [none,none,none,none,none] (jd (ah 5)) (bU 4 (aA (ao 0) (aA (ao 1) (aA (ao 2) (aA (ao 3) bY))))) (gR (bT (ag (ah 0) (ag (ah 1) aw)))) (ao 4) (ah 4)) aw))) (ao 6))
 (aK (bc (az qe (ag (ah 0) (ag (C2 [none,none,none,none,none] (jd (ah 5)) (bU 4 (aA (ao 0) (aA (ao 1) (aA (ao 2) (aA (ao 3) bY))))) (gR (bT (ag (ah 2) (ag (ah 3) aw)))) (ao 4) (ah 4)) aw))) (ao 7))
 (bb (kA (az tQ (ag (ah 6) (ag (ah 2) aw))) (kA (az tQ (ag (ah 7) (ag (ah 3) aw))) (az zh (ag (ah 5) (ag (ah 6) (ag (ah 7) aw))))))))))))
section
variable {Z:Mu}{Qd:DK}{ds:List D}
theorem tH{d:Int}{t:PyData}(h:bR d t=true):∃x:N3,t=dN x/\Ok x/\sg d x.a x.b=1:=by
 cases n:isNum t with
 |false=>rw[jJ n] at h;cases h
 |true=>
  obtain⟨x,rfl,ox⟩:=dy n
  rw[j3 ox] at h
  exact⟨x,rfl,ox,of_decide_eq_true h⟩
theorem NU{d:Int}{t:PyData}(h:ji d t=true):∃tl,t=tlD tl/\rY d tl:=by
 by_cases ht:∃xs,t = .tuple xs
 ·obtain⟨xs,rfl⟩:=ht
  by_cases l:xs.length=4
  ·obtain⟨a,b,c,e,rfl⟩:=BZ l
   rw[wY] at h
   simp only[and_eq_true,decide_eq_true_iff] at h
   obtain⟨⟨na,nb,sa,sb⟩,hc,he⟩:=h
   obtain⟨x,rfl,ox⟩:=dy na
   obtain⟨y,rfl,oy⟩:=dy nb
   obtain⟨w,rfl,ow,sw⟩:=tH hc
   obtain⟨k,rfl,ok,sk⟩:=tH he
   exact⟨⟨x,y,w,k⟩,rfl,ox,oy,ow,ok,sa,sb,sw,sk⟩
  ·rw[vy l] at h;cases h
 ·rw[uR ht] at h;cases h
theorem KQ{d:Int}{ts:List PyData}(h:ts.all (ji d)=true):∃us:List Tl,ts=us.map tlD/\∀t∈us,rY d t:=by
 induction ts with
 |nil=>exact⟨[],rfl,fun _ z=>absurd z not_mem_nil⟩
 |cons t ts ih=>
  rw[List.all_cons,and_eq_true] at h
  obtain⟨us,rfl,g⟩:=ih h.2
  obtain⟨tl,rfl,v⟩:=NU h.1
  exact⟨tl::us,rfl,fun x hx=>by
   rcases List.mem_cons.mp hx with rfl|hx
   ·exact v
   ·exact g x hx⟩
theorem HE{d:Int}{t:PyData}(h:lC d t=true):∃w k ts,t=cm w k ts/\vN d w k ts:=by
 by_cases ht:∃xs,t = .tuple xs
 ·obtain⟨xs,rfl⟩:=ht
  by_cases l:xs.length=3
  ·obtain⟨a,b,c,rfl⟩:=yZ l
   by_cases hc:∃ts,c = .tuple ts
   ·obtain⟨ts,rfl⟩:=hc
    unfold lC at h
    simp only[and_eq_true,decide_eq_true_iff] at h
    obtain⟨ha,hb,h1,h2,h3⟩:=h
    obtain⟨w,rfl,ow,sw⟩:=tH ha
    obtain⟨k,rfl,ok,sk⟩:=tH hb
    obtain⟨us,rfl,g⟩:=KQ h3
    rw[length_map] at h1 h2
    exact⟨w,k,us,rfl,ow,ok,sw,sk,h1,h2,g⟩
   ·rw[xj hc] at h;cases h
  ·rw[uK l] at h;cases h
 ·rw[u9 ht] at h;cases h
theorem wZ{t u:Tl}(h:tlD t=tlD u):t=u:=by
 cases t;cases u
 unfold tlD at h
 injection h with h
 simp only[List.cons.injEq,and_true] at h
 obtain⟨h1,h2,h3,h4⟩:=h
 rw[qY h1,qY h2,qY h3,qY h4]
theorem E1:∀{xs ys:List Tl},xs.map tlD=ys.map tlD->xs=ys
 |[],[],_=>rfl
 |[],_::_,h=>by cases h
 |_::_,[],h=>by cases h
 |x::xs,y::ys,h=>by
  rw[map_cons,map_cons] at h
  injection h with h1 h2
  rw[wZ h1,E1 h2]
theorem Fz{w h w' h':N3}{ts ts':List Tl}(e:cm w h ts=cm w' h' ts'):w=w'/\h=h'/\ts=ts':=by
 unfold cm at e
 injection e with e
 simp only[List.cons.injEq,and_true,PyData.tuple.injEq] at e
 exact⟨qY e.1,qY e.2.1,E1 e.2.2⟩
theorem pU{d:Int}(hd:aJ d){P fs X:List N3}(m:iN d P fs)(h:∀x∈fs,x∈X):P.length<=X.length:=GR.pig (fw hd m.up) fun x hx=>h x ((m.mem x).mp hx)
theorem Ex{X Y:List N3}{ts:List Tl}(on:∀t∈ts,OnM X Y t):(∀x∈gS ts,x∈X)/\(∀y∈gP ts,y∈Y):=by
 constructor
 ·intro x hx
  obtain⟨t,ht,h⟩:=List.mem_flatMap.mp hx
  simp only[mem_cons,not_mem_nil,or_false] at h
  rcases h with rfl|rfl
  ·exact (on t ht).l
  ·exact (on t ht).r
 ·intro x hx
  obtain⟨t,ht,h⟩:=List.mem_flatMap.mp hx
  simp only[mem_cons,not_mem_nil,or_false] at h
  rcases h with rfl|rfl
  ·exact (on t ht).b
  ·exact (on t ht).t
theorem K4{d:Int}{P Q:List N3}{ts:List Tl}(mp:iN d P (gS ts))(mq:iN d Q (gP ts)):∀t∈ts,OnM P Q t:=fun t ht=>
 ⟨(mp.mem _).mpr (List.mem_flatMap.mpr ⟨t,ht,mem_cons_self⟩),(mp.mem _).mpr (List.mem_flatMap.mpr ⟨t,ht,mem_cons_of_mem _ mem_cons_self⟩),(mq.mem _).mpr (List.mem_flatMap.mpr ⟨t,ht,mem_cons_self⟩),(mq.mem _).mpr (List.mem_flatMap.mpr ⟨t,ht,mem_cons_of_mem _ mem_cons_self⟩)⟩
theorem Lh{d:Int}{ts:List Tl}(v:∀t∈ts,rY d t)(b:∀t∈ts,Bd4 2100 t):∀m∈gS ts,Ok m/\Bd 4400 m:=fun m hm=>by
 obtain⟨t,ht,h⟩:=List.mem_flatMap.mp hm
 have V:=v t ht
 have B:=b t ht
 simp only[mem_cons,not_mem_nil,or_false] at h
 rcases h with rfl|rfl
 ·exact⟨V.ox,B.x.mono ⋯⟩
 ·exact⟨bS V.ox V.ow,(rW V.ox V.ow B.x B.w).mono ⋯⟩
theorem Kj{d:Int}{ts:List Tl}(v:∀t∈ts,rY d t)(b:∀t∈ts,Bd4 2100 t):∀m∈gP ts,Ok m/\Bd 4400 m:=fun m hm=>by
 obtain⟨t,ht,h⟩:=List.mem_flatMap.mp hm
 have V:=v t ht
 have B:=b t ht
 simp only[mem_cons,not_mem_nil,or_false] at h
 rcases h with rfl|rfl
 ·exact⟨V.oy,B.y.mono ⋯⟩
 ·exact⟨bS V.oy V.oh,(rW V.oy V.oh B.y B.h).mono ⋯⟩
theorem qi{ts:List Tl}:(gS ts).length=2*ts.length:=by
 unfold gS
 induction ts with
 |nil=>rfl
 |cons t ts ih=>rw[flatMap_cons,length_append,ih,length_cons];simp only[length_cons,length_nil];omega
theorem qm{ts:List Tl}:(gP ts).length=2*ts.length:=by
 unfold gP
 induction ts with
 |nil=>rfl
 |cons t ts ih=>rw[flatMap_cons,length_append,ih,length_cons];simp only[length_cons,length_nil];omega
noncomputable def f2X:PyData->List PyData
 |.tuple [a,b,_,_]=>[a,b]
 |_=>[]
noncomputable def f2Y:PyData->List PyData
 |.tuple [_,_,a,b]=>[a,b]
 |_=>[]
theorem LD(ts:List Tl):(ts.map vt).flatMap f2X=(gS ts).map dN:=by
 induction ts with
 |nil=>rfl
 |cons t ts ih=>rw[map_cons,flatMap_cons,ih];rfl
theorem L0(ts:List Tl):(ts.map vt).flatMap f2Y=(gP ts).map dN:=by
 induction ts with
 |nil=>rfl
 |cons t ts ih=>rw[map_cons,flatMap_cons,ih];rfl
theorem KS{α:Type}{f:α->PyData}{g:PyData->Option PyData}{h:α->PyData}(e:∀x,g (f x)=some (h x))(ts:List α):(ts.map f).filterMap g=ts.map h:=by
 induction ts with
 |nil=>rfl
 |cons t ts ih=>rw[map_cons,filterMap_cons,e,ih];rfl
theorem ND{d:Int}{t:Tl}(v:rY d t):ji d (tlD t)=true:=by
 unfold tlD
 rw[wY,yf v.ox,yf v.oy,p7,p7,decide_eq_true v.sx,decide_eq_true v.sy,j3 v.ow,j3 v.oh,decide_eq_true v.sw,decide_eq_true v.sh]
 rfl
theorem Iy{d:Int}{w k:N3}{ts:List Tl}(v:vN d w k ts):lC d (cm w k ts)=true:=by
 show (bR d (dN w)&&(bR d (dN k)&&(decide (1<=(ts.map tlD).length)&&(decide ((ts.map tlD).length<=60)&&(ts.map tlD).all (ji d)))))=true
 rw[j3 v.ow,j3 v.oh,decide_eq_true v.sw,decide_eq_true v.sh,length_map,decide_eq_true v.some,decide_eq_true v.few,all_map]
 simp only[Bool.true_and]
 exact List.all_eq_true.mpr fun t ht=>ND (v.tile t ht)
theorem Bt(h:tM ds Z Qd):mN ‹Qd› (aL ["d","thing","width","height","tiles","bounds","across","upward"] ds) Z:=by
 obtain⟨d,t,rfl,hd,⟨fp,lay⟩,q⟩:=h
 unfold mN
 walk_at "rb"
 refine⟨d,t,rfl,hd,fp,?_⟩
 walk_at "rb"
 cases fb:lC d t with
 |false=>
  rw[bP (by rfl)]
  walk_at "rb"
  exact q false ⟨fun _=>rfl,fun w k ts e v=>by rw[e,Iy v] at fb;cases fb⟩
 |true=>
  rw[bQ (by simp)]
  obtain⟨w,k,ts,rfl,v⟩:=HE fb
  obtain⟨_,_,bd,X,Y,on,lX,lY,few⟩:=lay w k ts rfl
  have l60:=v.few
  have l1:=v.some
  unfold cm
  walk_at "rb"
  refine⟨trivial,?_⟩
  rw[mR]
  walk_at "rb"
  refine⟨by rw[length_map];omega,fun p hp=>⟨fun i acc U=>acc=(ts.take i).map vt/\U=aD Z p acc,⟨rfl,rfl⟩,?_,?_⟩⟩
  ·rintro i x acc U hx ha ⟨e0,e1⟩
   obtain⟨t,et,rfl⟩:∃t,ts[i]? = some t/\x=tlD t:=by
    rw[getElem?_map] at hx
    cases e:ts[i]? with
    |none=>rw[e] at hx;cases hx
    |some t=>rw[e] at hx;exact⟨t,rfl,(Option.some.inj hx).symm⟩
   have V:=v.tile t (mem_of_getElem? et)
   have B:=bd t (mem_of_getElem? et)
   walk_at "rb"
   refine⟨trivial,?_⟩
   rw[if_pos trivial]
   refine⟨d,t,rfl,⟨V.ox,V.oy,V.ow,V.oh,B.x,B.y,B.w,B.h⟩,?_⟩
   walk_at "rb"
   refine⟨ha,?_,?_⟩
   ·rw[e0,take_succ,et,map_append];rfl
   ·rw[e1,ig]
  rintro acc U ⟨e0,e1⟩ ha
  rw[length_map,take_length] at e0
  subst e0
  rw[e1,qd hp]
  rw[Ig]
  walk_at "rb"
  refine⟨by rw[length_map];omega,f2X,by rw[LD,length_map,qi];omega,?_,?_⟩
  ·intro x hx U _
   obtain⟨t,ht,rfl⟩:=List.mem_map.mp hx
   unfold vt
   walk_at "rb"
   refine⟨trivial,trivial,trivial,trivial,id,rfl,fun y hy ga _=>⟨⟨trivial,trivial,trivial,trivial,trivial⟩,trivial,rfl⟩⟩
  rw[LD]
  refine⟨d,gS ts,rfl,hd,Lh v.tile bd,by rw[qi];omega,fun P mp=>?_⟩
  walk_at "rb"
  rw[Ig]
  walk_at "rb"
  refine⟨by rw[length_map];omega,f2Y,by rw[L0,length_map,qm];omega,?_,?_⟩
  ·intro x hx U _
   obtain⟨t,ht,rfl⟩:=List.mem_map.mp hx
   unfold vt
   walk_at "rb"
   refine⟨trivial,trivial,trivial,trivial,id,rfl,fun y hy ga _=>⟨⟨trivial,trivial,trivial,trivial,trivial⟩,trivial,rfl⟩⟩
  rw[L0]
  refine⟨d,gP ts,rfl,hd,Kj v.tile bd,by rw[qm];omega,fun Q mq=>?_⟩
  walk_at "rb"
  have np:P≠[]:=fun e=>by
   have:gS ts≠[]:=fun z=>by have:=qi (ts:=ts);rw[z] at this;simp at this;omega
   obtain⟨x,hx⟩:=List.exists_mem_of_ne_nil _ this
   have:=(mp.mem x).mpr hx
   rw[e] at this
   exact absurd this not_mem_nil
  have nq:Q≠[]:=fun e=>by
   have:gP ts≠[]:=fun z=>by have:=qm (ts:=ts);rw[z] at this;simp at this;omega
   obtain⟨x,hx⟩:=List.exists_mem_of_ne_nil _ this
   have:=(mq.mem x).mpr hx
   rw[e] at this
   exact absurd this not_mem_nil
  have done:∀b,b=(gF P w&&(gF Q k&&GR.qo (ts.map (cp P Q)) (P.length-1) (Q.length-1)))->Qd (.v (.bool b)) Z:=fun b e=>by
   refine q b ⟨fun z=>?_,fun w' k' ts' e' v'=>?_⟩
   ·rw[fb] at z;cases z
   ·obtain⟨rfl,rfl,rfl⟩:=Fz e'
    exact⟨P,Q,mp,mq,e⟩
  refine⟨P,w,rfl,np,?_⟩
  walk_at "rb"
  cases r1:gF P w with
  |false=>
   rw[bQ ⋯]
   exact done false (by rw[r1];rfl)
  |true=>
   rw[bP rfl]
   walk_at "rb"
   refine⟨Q,k,rfl,nq,?_⟩
   walk_at "rb"
   cases r2:gF Q k with
   |false=>
    rw[bQ ⋯]
    exact done false (by rw[r1,r2];rfl)
   |true=>
    rw[bP rfl]
    walk_at "rb"
    obtain⟨oX,oY⟩:=Ex on
    have fP:=pU hd mp oX
    have fQ:=pU hd mq oY
    have fm:(P.length-1)*(Q.length-1)<=X.length*Y.length:=mul_le_mul ∅ ∅
    refine⟨P,Q,ts,rfl,⟨fw hd mp.up,fw hd mq.up,np,nq,∅,∅,∅,K4 mp mq,∅⟩,?_⟩
    walk_at "rb"
    exact done _ (by rw[r1,r2];rfl)
end
noncomputable def rD:DSp:=fun ds Z Q=>∃(d:Int) (a:Addr) (fs:List N3),ds=[.v (.int d),.m a]/\aJ d/\Z a=some (fs.map dN)/\(∀m∈fs,Ok m/\Bd 4300 m)/\fs.length<=900 /\
 ∀p ms U,Z p=none->dE Z U->U p=some (ms.map dN)->iN d ms fs->Q (.m p) U
noncomputable def uF:DSp:=fun ds Z Q=>∃(d:Int) (a:Addr) (fs:List N3),ds=[.v (.int d),.m a]/\aJ d/\Z a=some (fs.map dN)/\(∀m∈fs,Ok m/\Bd 4300 m)/\fs.length<=900 /\
 ∀ms,iN d ms fs->Q (.v (.list (ms.map dN))) Z
theorem xW{ds:List D}{Z:Mu}{Q:DK}(h:rD ds Z Q):ds.length=2:=by obtain⟨_,_,_,rfl,_⟩:=h;rfl
theorem uH{ds:List D}{Z:Mu}{Qd:DK}(h:uF ds Z Qd):rD ds Z (frz Z Qd):=by
 obtain⟨d,a,fs,rfl,hd,ha,g,hl,q⟩:=h
 exact⟨d,a,fs,rfl,hd,ha,g,hl,fun p ms U hp sb hm mk=>⟨⟨hp,sb⟩,_,hm,q ms mk⟩⟩
noncomputable def gU:DTS:=
 (bb (kA (az kS (ag (ah 1) aw)) (dOp rGt (az hJ (ag (ah 0) (ag (ah 1) aw))) (dC (.int 0)))))
noncomputable def iY:DTS:=
 (aK (cF (fZ (du (dB (wX "tuple" (ah 1)))) (fZ (dB (dOp (cM true) (dCB dw (ag (ah 1) aw)) (dC (.int 4)))) (du (dB (dCB vV (ag (nN [none] (gR (ah 1)) (ao 0) gp (az kS (ag (ah 0) aw))) aw)))))) (bb (dC (.bool false))) bA)
 (aK (cF (fZ (dB (dOp rLt (az hJ (ag (ah 0) (ag (dOp aM (ah 1) (dC (.int 0))) aw))) (dC (.int 0)))) (dB (dOp rLt (az hJ (ag (ah 0) (ag (dOp aM (ah 1) (dC (.int 1))) aw))) (dC (.int 0))))) (bb (dC (.bool false))) bA)
 (bb (kA (az dq (ag (ah 0) (ag (dOp aM (ah 1) (dC (.int 2))) aw))) (az dq (ag (ah 0) (ag (dOp aM (ah 1) (dC (.int 3))) aw)))))))
noncomputable def i7:DTS:=
 (aK (bc (qx aw) (ao 2))
 (aK (L3 (ah 1) (ao 3) (aK (Cu 4 5 (ag (dC (.int 0)) (ag (dCB dw (ag (ah 2) aw)) aw)))
 (aK (qA (dB (dOp rLt (ah 4) (ah 5))) (aK (bc (wQ (de (ah 4) (ah 5)) (dC (.int 2))) (ao 6))
 (cF (dB (az w9 (ag (ah 0) (ag (dOp aM (ah 2) (ah 6)) (ag (ah 3) aw))))) (bc (de (ah 6) (dC (.int 1))) (ao 4)) (bc (ah 6) (ao 5)))))
 (cF (fZ (dB (dOp (cM false) (ah 4) (dCB dw (ag (ah 2) aw)))) (dB (dOp (cM true) (dOp aM (ah 2) (ah 4)) (ah 3)))) (nE (Jm (ah 2) (ah 4) (ah 3))) bA))))
 (bb (ah 2))))
section
variable {Z:Mu}{Qd:DK}{ds:List D}
theorem uS(h:dq ds Z Qd):gU ‹Qd› (aL ["_law_d","_law_thing"] ds) Z:=by
 obtain⟨d,t,rfl,hd,ft,bt,q⟩:=h
 unfold gU
 walk_at "rb"
 refine⟨t,rfl,ft,?_⟩
 walk_at "rb"
 cases e:isNum t with
 |true=>
  rw[bP rfl]
  obtain⟨x,rfl,ox⟩:=dy e
  walk_at "rb"
  refine⟨d,x,rfl,hd,bt x rfl,?_⟩
  walk_at "rb"
  rw[j3 ox] at q
  have e2:decide (sg d x.a x.b>0)=decide (sg d x.a x.b=1):=by
   refine decide_eq_decide.mpr ?_
   have:=nz d x.a x.b
   omega
  rw[e2];exact q
 |false=>
  rw[bQ ⋯]
  rw[jJ e] at q
  exact q
theorem wN(h:qU ds Z Qd):iY ‹Qd› (aL ["_law_d","_law_thing"] ds) Z:=by
 obtain⟨d,t,rfl,hd,ht4,q⟩:=h
 unfold iY
 walk_at "rb"
 by_cases ht:∃xs,t = .tuple xs
 ·obtain⟨xs,rfl⟩:=ht
  rw[bQ (by rw[show isT "tuple" (.tuple xs)=true from rfl];decide)]
  walk_at "rb"
  by_cases l4:xs.length=4
  ·obtain⟨a,b,c,e,rfl⟩:=BZ l4
   rw[bQ (by simp)]
   obtain⟨pa,pb,pc,pe⟩:=ht4 a b c e rfl
   rw[wY] at q
   walk_at "rb"
   rw[kU]
   walk_at "rb"
   refine⟨⋯,fun x=>some (.bool (isNum x)),?_,?_⟩
   ·intro x hx U _
    have fx:Few x:=by
     simp only[mem_cons,not_mem_nil,or_false] at hx
     rcases hx with rfl|rfl|rfl|rfl
     ·exact pa.1
     ·exact pb.1
     ·exact pc.1
     ·exact pe.1
    walk_at "rb"
    refine⟨trivial,?_⟩
    rw[if_pos trivial]
    exact⟨x,rfl,fx,rfl,rfl⟩
   rw[pP]
   dsimp only
   by_cases nn:isNum a=true/\isNum b=true/\isNum c=true/\isNum e=true
   ·obtain⟨na,nb,nc,ne⟩:=nn
    rw[bQ (by simp[na,nb,nc,ne])]
    obtain⟨x,rfl,ox⟩:=dy na
    obtain⟨y,rfl,oy⟩:=dy nb
    rw[na,nb,p7,p7,Bool.true_and,Bool.true_and] at q
    walk_at "rb"
    refine⟨d,x,rfl,hd,(pa.2 x rfl).mono ⋯,?_⟩
    walk_at "rb"
    by_cases s1:sg d x.a x.b<0
    ·rw[bP (decide_eq_true s1)]
     rw[decide_eq_false ∅,Bool.false_and,Bool.false_and] at q
     walk_at "rb"
     exact q
    rw[bQ (by simpa using s1)]
    rw[decide_eq_true (show 0<=sg d x.a x.b by omega),Bool.true_and] at q
    walk_at "rb"
    refine⟨d,y,rfl,hd,(pb.2 y rfl).mono ⋯,?_⟩
    walk_at "rb"
    by_cases s2:sg d y.a y.b<0
    ·rw[bP (decide_eq_true s2)]
     rw[decide_eq_false ∅,Bool.false_and] at q
     walk_at "rb"
     exact q
    rw[bQ (by simpa using s2)]
    rw[decide_eq_true (show 0<=sg d y.a y.b by omega),Bool.true_and] at q
    walk_at "rb"
    refine⟨d,c,rfl,hd,pc.1,fun z h=>(pc.2 z h).mono ⋯,?_⟩
    walk_at "rb"
    cases ac:bR d c with
    |false=>
     rw[bQ ⋯]
     rw[ac] at q
     exact q
    |true=>
     rw[bP rfl]
     rw[ac,Bool.true_and] at q
     walk_at "rb"
     refine⟨d,e,rfl,hd,pe.1,fun z h=>(pe.2 z h).mono ⋯,?_⟩
     walk_at "rb"
     exact q
   ·have q':Qd (.v (.bool false)) Z:=by
     have:(isNum a&&(isNum b&&(decide (0<=sg d (numAt a).a (numAt a).b)&&decide (0<=sg d (numAt b).a (numAt b).b)))&&(bR d c&&bR d e))=false:=by
      cases na:isNum a with
      |false=>rfl
      |true=>cases nb:isNum b with
       |false=>rfl
       |true=>cases nc:isNum c with
        |false=>rw[jJ nc,Bool.false_and,Bool.and_false]
        |true=>cases ne:isNum e with
         |false=>rw[jJ ne,Bool.and_false,Bool.and_false]
         |true=>exact absurd ⟨na,nb,nc,ne⟩ nn
     rw[this] at q
     exact q
    rw[bP ?_]
    ·walk_at "rb"
     exact q'
    ·cases na:isNum a with
     |false=>simp[na]
     |true=>cases nb:isNum b with
      |false=>simp[nb]
      |true=>cases nc:isNum c with
       |false=>simp[nc]
       |true=>cases ne:isNum e with
        |false=>simp[ne]
        |true=>exact absurd ⟨na,nb,nc,ne⟩ nn
  ·rw[bP (by simp;omega)]
   rw[vy l4] at q
   walk_at "rb"
   exact q
 ·rw[bP (by rw[ml ht];rfl)]
  rw[uR ht] at q
  walk_at "rb"
  exact q
theorem wx(h:rD ds Z Qd):i7 ‹Qd› (aL ["_law_d","_law_row","_law_found","_law_one","_law_low_here","_law_high","_law_middle"] ds) Z:=by
 obtain⟨d,a,fs,rfl,hd,ha0,gf,hl,q⟩:=h
 unfold i7
 walk_at "rb"
 intro p hp
 rw[PK]
 walk_at "rb"
 have pa:a≠p:=fun e=>by rw[e,hp] at ha0;cases ha0
 refine⟨fs.map dN,by rw[aV pa];exact ha0,fun i ρ U=>∃r3 r4 r5 r6 ms,ρ=[some (.v (.int d)),some (.m a),some (.m p),r3,r4,r5,r6]/\dE Z U/\U p=some (ms.map dN)/\da d ms/\(∀x,x∈ms↔x∈fs.take i)/\ms.length<=i,⟨_,_,_,_,[],rfl,dE.refl.set hp,aE,List.Pairwise.nil,by simp,le_refl _⟩,?_,?_,?_⟩
 ·rintro i ρ U ⟨_,_,_,_,_,_,sb,_⟩
  exact sb.l a _ ha0
 ·rintro i x ρ U hx ⟨r3,r4,r5,r6,ms,rfl,sb,hm,hr,hms,lm⟩
  have hil:i<fs.length:=by
   rcases lt_or_ge i fs.length with z|z
   ·exact z
   ·rw[getElem?_eq_none (by rw[length_map];exact z)] at hx;cases hx
  obtain⟨f,ef,rfl⟩:∃f,fs[i]? = some f/\x=dN f:=by
   rw[getElem?_map,getElem?_eq_getElem hil] at hx
   exact⟨fs[i],getElem?_eq_getElem hil,(Option.some.inj hx).symm⟩
  have gm:∀m∈ms,Ok m/\Bd 4300 m:=fun m h=>gf m (List.mem_of_mem_take ((hms m).mp h))
  obtain⟨of,bf⟩:=gf f (mem_of_getElem? ef)
  have tk:fs.take (i+1)=fs.take i++[f]:=by rw[take_succ,ef];rfl
  walk_at "rb"
  rw[hm]
  walk_at "rb"
  rw[Cc,length_map]
  refine⟨fun n ρ am=>∃(lo hi:Nat) (r6:Option D),ρ=[some (.v (.int d)),some (.m a),some (.m p),some (.v (dN f)),some (.v (.int (lo:Nat))),some (.v (.int (hi:Nat))),r6]/\am=U/\n=hi-lo/\lo<=hi/\hi<=ms.length/\(∀i m,i<lo->ms[i]? = some m->dif d f m=1)/\(∀i m,hi<=i->ms[i]? = some m->¬ dif d f m=1),
   ⟨_,0,ms.length,r6,rfl,rfl,rfl,zero_le _,le_refl _,fun i m z=>absurd z (not_lt_zero _),fun i m z e=>by rw[getElem?_eq_none z] at e;cases e⟩,?_⟩
  rintro n ρ am ⟨lo,hi,r6',rfl,rfl,rfl,h1,h2,hb,ha⟩
  walk_at "rb"
  by_cases c:lo<hi
  ·rw[if_pos (decide_eq_true ∅)]
   have hmm:(lo+hi) / 2<ms.length:=by omega
   have em:ms[(lo+hi) / 2]? = some ms[(lo+hi) / 2]:=getElem?_eq_getElem hmm
   have efd:(((lo:Nat):Int)+((hi:Nat):Int)).fdiv 2=(((lo+hi) / 2:Nat):Int):=by
    have:((lo:Nat):Int)+((hi:Nat):Int)=((lo+hi:Nat):Int):=by omega
    rw[this]
    exact Ku (lo+hi) 2
   rw[efd,hm]
   dsimp only
   rw[oi em]
   generalize ms[(lo+hi) / 2]=mm at em
   obtain⟨omm,bmm⟩:=gm mm (mem_of_getElem? em)
   refine⟨zm ⋯ (Sz.of (n:=2) ⋯) ⋯,d,mm,f,rfl,hd,omm,of,bmm,bf,?_⟩
   walk_at "rb"
   by_cases cc:dif d f mm=1
   ·rw[bP (decide_eq_true cc)]
    walk_at "rb"
    refine⟨_,?_,(lo+hi) / 2+1,hi,some (.v (.int (((lo+hi) / 2:Nat):Int))),by simp,trivial,rfl,∅,h2,fun i m z e=>?_,ha⟩
    ·omega
    ·rcases lt_or_eq_of_le (le_of_lt_succ z) with z|z
     ·obtain⟨om,_⟩:=gm m (mem_of_getElem? e)
      exact g8 hd of omm om cc (um hr z e em)
     ·rw[z,em] at e
      cases e
      exact cc
   ·rw[bQ (by simpa using cc)]
    walk_at "rb"
    refine⟨_,?_,lo,(lo+hi) / 2,_,rfl,trivial,rfl,∅,∅,hb,fun i m z e g=>cc ?_⟩
    ·omega
    ·rcases lt_or_eq_of_le z with z|z
     ·obtain⟨om,_⟩:=gm m (mem_of_getElem? e)
      exact g8 hd of om omm g (um hr z em e)
     ·rw[<- z,em] at e
      cases e
      exact g
  ·rw[if_neg (by simpa using c)]
   obtain rfl:lo=hi:=by omega
   have fin:(∀m,ms[lo]? = some m->m≠f)->∃r3 r4 r5 r6 ms',[some (D.v (.int d)),some (D.m a),some (D.m p),some (D.v (dN f)),some (D.v (.int (lo:Nat))),some (D.v (.int (lo:Nat))),r6']=[some (.v (.int d)),some (.m a),some (.m p),r3,r4,r5,r6]/\dE Z (aD am p ((ms.map dN).take lo++dN f::(ms.map dN).drop lo))/\aD am p ((ms.map dN).take lo++dN f::(ms.map dN).drop lo) p=some (ms'.map dN)/\da d ms'/\(∀x,x∈ms'↔x∈fs.take (i+1))/\ms'.length<=i+1:=fun hn=>by
    refine⟨_,_,_,_,ms.take lo++f::ms.drop lo,rfl,sb.set hp,?_,DJ hd (fun m h=>(gm m h).1) of hr h2 hb ha hn,fun x=>?_,by simp;omega⟩
    ·rw[aE,map_append,map_cons,List.map_take,List.map_drop]
    ·rw[Hw,tk,mem_append,mem_singleton,hms]
     exact Or.comm
   have put:(∀m,ms[lo]? = some m->m≠f)->∀K:DK,(∀z,(∃r3 r4 r5 r6 ms',[some (D.v (.int d)),some (D.m a),some (D.m p),some (D.v (dN f)),some (D.v (.int (lo:Nat))),some (D.v (.int (lo:Nat))),r6']=[some (.v (.int d)),some (.m a),some (.m p),r3,r4,r5,r6]/\dE Z z/\z p=some (ms'.map dN)/\da d ms'/\(∀x,x∈ms'↔x∈fs.take (i+1))/\ms'.length<=i+1)->K (.v .none) z)->Jm (ah 2) (ah 4) (ah 3) [some (D.v (.int d)),some (D.m a),some (D.m p),some (D.v (dN f)),some (D.v (.int (lo:Nat))),some (D.v (.int (lo:Nat))),r6'] am K:=fun hn K kk=>by
    rw[N8]
    walk_at "rb"
    exact⟨lo,dN f,ms.map dN,rfl,rfl,hm,by rw[length_map];exact h2,by rw[length_map];omega,kk _ (fin hn)⟩
   rw[hm]
   walk_at "rb"
   by_cases cl:lo=ms.length
   ·rw[bP (decide_eq_true (by rw[length_map];omega))]
    walk_at "rb"
    exact put (fun m e=>by rw[getElem?_eq_none ∅] at e;cases e) _ fun z h=>h
   ·rw[bQ (by simp;omega)]
    have rl':lo<ms.length:=by omega
    have er:ms[lo]? = some ms[lo]:=getElem?_eq_getElem rl'
    walk_at "rb"
    rw[hm]
    dsimp only
    rw[oi er]
    walk_at "rb"
    by_cases cf:ms[lo]=f
    ·rw[bQ (by simp[cf])]
     walk_at "rb"
     refine⟨_,_,_,_,ms,rfl,sb,hm,hr,fun x=>?_,∅⟩
     rw[tk,mem_append,mem_singleton,hms]
     constructor
     ·exact .inl
     ·rintro (h|rfl)
      ·exact h
      ·rw[<- hms,<- cf];exact getElem_mem _
    ·rw[bP (by simp[cf])]
     walk_at "rb"
     exact put (fun m e=>by rw[er] at e;cases e;exact cf) _ fun z h=>h
 ·rintro ρ U ⟨r3,r4,r5,r6,ms,rfl,sb,hm,hr,hms,lm⟩
  rw[length_map,take_length] at hms
  walk_at "rb"
  exact q p ms U hp sb hm ⟨hr,hms⟩
end
noncomputable def pairD(e:N3×N3):PyData:=.tuple [dN e.1,dN e.2]
noncomputable def l7(es:List (N3×N3)):List N3:=es.flatMap fun e=>[e.1,e.2]
noncomputable def kh(L:List N3)(e:N3×N3):PyData:=.tuple [.int (L.idxOf e.1:Nat),.int (L.idxOf e.2:Nat)]
noncomputable def qj(L:List N3)(es:List (N3×N3))(m:N3):PyData:=if L.getLast? = some m then .tuple [.list (es.map (kh L)),.int ((L.length-1:Nat):Int)] else .tuple [.none,.int 0]
noncomputable def Hy(d:Int)(es:List (N3×N3))(m:N3):Prop:=aJ d/\(∀e∈es,Ok e.1/\Bd 4300 e.1/\Ok e.2/\Bd 4300 e.2)/\Ok m/\Bd 4300 m/\es.length<=100
noncomputable def yr:DSp:=fun ds Z Q=>∃(d:Int) (es:List (N3×N3)) (m:N3),ds=[.v (.int d),.v (.list (es.map pairD)),.v (dN m)]/\Hy d es m /\
 ∀L U,dE Z U->iN d L (ax::m::l7 es)->Q (.v (qj L es m)) U
noncomputable def xb:DSp:=fun ds Z Q=>∃(d:Int) (es:List (N3×N3)) (m:N3),ds=[.v (.int d),.v (.list (es.map pairD)),.v (dN m)]/\Hy d es m /\
 ∀L,iN d L (ax::m::l7 es)->Q (.v (qj L es m)) Z
theorem Bp{ds:List D}{Z:Mu}{Q:DK}(h:yr ds Z Q):ds.length=3:=by obtain⟨_,_,_,rfl,_⟩:=h;rfl
theorem xu{ds:List D}{Z:Mu}{Qd:DK}(h:xb ds Z Qd):yr ds Z (frz Z Qd):=by
 obtain⟨d,es,m,rfl,pre,q⟩:=h
 exact⟨d,es,m,rfl,pre,fun L U sb mk=>⟨sb,q L mk⟩⟩
noncomputable def kH:DTS:=
 (aK (bc (qx (ag (bT (ag (dC (.int 0)) (ag (dC (.int 0)) (ag (dC (.int 1)) aw)))) (ag (ah 2) aw))) (ao 3))
 (aK (nU (jd (ah 1)) (bU 2 (aA (ao 4) (aA (ao 5) bY))) (nE (Oo (ah 3) (wB (ag (ah 4) (ag (ah 5) aw))))))
 (aK (bc (az uF (ag (ah 0) (ag (ah 3) aw))) (ao 6))
 (aK (cF (dB (dOp (cM true) (dOp aM (ah 6) (qL (dC (.int 1)))) (ah 2))) (bb (bT (ag (dC .none) (ag (dC (.int 0)) aw)))) bA)
 (aK (bc se (ao 7))
 (aK (nU (yD (ag (ah 6) aw)) (bU 2 (aA (ao 8) (aA (ao 9) bY))) (AV (ah 7) (ah 9) (ah 8)))
 (bb (bT (ag (jW [none,none,some 7] (jd (ah 1)) (bU 2 (aA (ao 0) (aA (ao 1) bY))) gp (bT (ag (Fx (ah 2) (ah 0)) (ag (Fx (ah 2) (ah 1)) aw)))) (ag (oq (dCB dw (ag (ah 6) aw)) (dC (.int 1))) aw))))))))))
section
variable {Z:Mu}{Qd:DK}{ds:List D}
theorem G5{es:List (N3×N3)}{e:N3×N3}:l7 (es++[e])=l7 es++[e.1,e.2]:=by unfold l7;rw[flatMap_append];rfl
theorem uP{es:List (N3×N3)}:(l7 es).length=2*es.length:=by
 unfold l7
 induction es with
 |nil=>rfl
 |cons t ts ih=>rw[flatMap_cons,length_append,ih,length_cons];simp only[length_cons,length_nil];omega
theorem sv{α:Type}{f:α->PyData}{es:List α}{i:Nat}{x:PyData}(h:(es.map f)[i]? = some x):∃e,es[i]? = some e/\x=f e:=by
 rw[getElem?_map] at h
 cases k:es[i]? with
 |none=>rw[k] at h;cases h
 |some e=>rw[k] at h;exact⟨e,rfl,(Option.some.inj h).symm⟩
theorem take_snoc{α:Type}{es:List α}{i:Nat}{e:α}(h:es[i]? = some e):es.take (i+1)=es.take i++[e]:=by rw[take_succ,h];rfl
theorem Ay(h:yr ds Z Qd):kH ‹Qd› (aL ["_law_d","_law_ends_here","_law_most","_law_row","_law_low_here","_law_high","_law_places","_law_book","_law_place","_law_one"] ds) Z:=by
 obtain⟨d,es,m,rfl,⟨hd,ge,om,bm,le⟩,q⟩:=h
 unfold kH
 walk_at "rb"
 intro r hr
 rw[jj]
 walk_at "rb"
 refine⟨fun i ρ U=>∃r4 r5,ρ=[some (.v (.int d)),some (.v (.list (es.map pairD))),some (.v (dN m)),some (.m r),r4,r5,none,none,none,none]/\dE Z U/\U r=some ((ax::m::l7 (es.take i)).map dN),⟨_,_,rfl,dE.refl.set hr,by rw[aE];rfl⟩,?_,?_⟩
 ·rintro i x ρ U hx ⟨r4,r5,rfl,sb,hm⟩
  obtain⟨e,ee,rfl⟩:=sv hx
  have ei:i<es.length:=(List.getElem?_eq_some_iff.mp ee).1
  rw[show pairD e = .tuple [dN e.1,dN e.2] from rfl]
  walk_at "rb"
  refine⟨trivial,?_⟩
  rw[hm]
  dsimp only
  refine⟨by rw[length_map,length_cons,length_cons,uP,length_take];simp only[length_cons,length_nil];omega,_,_,rfl,sb.set hr,?_⟩
  rw[aE,take_snoc ee,G5]
  simp only[map_cons,map_append,map_nil,cons_append]
 ·rintro ρ U ⟨r4,r5,rfl,sb,hm⟩
  rw[length_map,take_length] at hm
  walk_at "rb"
  refine⟨d,r,ax::m::l7 es,rfl,hd,hm,?_,by rw[length_cons,length_cons,uP];omega,fun L mk=>?_⟩
  ·intro x hx
   rcases List.mem_cons.mp hx with rfl|hx
   ·exact⟨gY,(show Bd 4 ax from ⟨Sz.of ⋯,Sz.of ⋯,Sz.of ⋯⟩).mono ⋯⟩
   ·rcases List.mem_cons.mp hx with rfl|hx
    ·exact⟨om,bm⟩
    ·obtain⟨e,he,h⟩:=List.mem_flatMap.mp hx
     obtain⟨g1,g2,g3,g4⟩:=ge e he
     simp only[mem_cons,not_mem_nil,or_false] at h
     rcases h with rfl|rfl
     ·exact⟨g1,g2⟩
     ·exact⟨g3,g4⟩
  have nL:L.Nodup:=fw hd mk.up
  have neL:L≠[]:=fun z=>by
   have:=(mk.mem m).mpr (mem_cons_of_mem _ mem_cons_self)
   rw[z] at this
   exact absurd this not_mem_nil
  have lL:L.length<=202:=by
   have:=GR.pig nL fun x hx=>(mk.mem x).mp hx
   rw[length_cons,length_cons,uP] at this
   omega
  have inL:∀e∈es,e.1∈L/\e.2∈L:=fun e he=>⟨(mk.mem _).mpr (mem_cons_of_mem _ (mem_cons_of_mem _ (List.mem_flatMap.mpr ⟨e,he,mem_cons_self⟩))),(mk.mem _).mpr (mem_cons_of_mem _ (mem_cons_of_mem _ (List.mem_flatMap.mpr ⟨e,he,mem_cons_of_mem _ mem_cons_self⟩)))⟩
  have l0:0<L.length:=List.length_pos_iff.mpr neL
  obtain⟨l,hl⟩:∃l,L.getLast? = some l:=⟨L.getLast neL,List.getLast?_eq_getLast neL⟩
  walk_at "rb"
  rw[oE hl]
  walk_at "rb"
  by_cases c:l=m
  ·rw[bQ (by simp[c])]
   walk_at "rb"
   intro pb hpb
   have hpb':Z.b pb=none:=by
    cases z:Z.b pb with
    |none=>rfl
    |some x=>have:=sb.b pb x z;rw[hpb] at this;cases this
   rw[jj]
   walk_at "rb"
   refine⟨fun i ρ am=>∃r8 r9,ρ=[some (.v (.int d)),some (.v (.list (es.map pairD))),some (.v (dN m)),some (.m r),r4,r5,some (.v (.list (L.map dN))),some (.b pb),r8,r9]/\dE Z am/\am.b pb=some (.dict (book (L.take i))),⟨_,_,rfl,sb.box hpb',by rw[ba];rfl⟩,?_,?_⟩
   ·rintro i x ρ am hx ⟨r8,r9,rfl,sb2,hb2⟩
    have hi:i<L.length:=by
     have:=(List.getElem?_eq_some_iff.mp hx).1
     rw[tm,length_map] at this
     exact this
    have ex:(jM 0 (L.map dN))[i]? = some (.tuple [.int ((0+i:Nat):Int),dN L[i]]):=vC (by rw[getElem?_map,getElem?_eq_getElem hi];rfl)
    rw[hx] at ex
    obtain rfl:=Option.some.inj ex
    rw[Nat.zero_add]
    have eL:L.take (i+1)=L.take i++[L[i]]:=take_snoc (getElem?_eq_getElem hi)
    walk_at "rb"
    refine⟨trivial,pb,_,_,_,rfl,rfl,rfl,hb2,?_,_,_,rfl,sb2.box hpb',?_⟩
    ·have:=J0 (P:=L.take i)
     rw[length_take] at this
     omega
    ·rw[ba,eL,Bi,length_take,Nat.min_eq_left ∅]
     rfl
   ·rintro ρ am ⟨r8,r9,rfl,sb2,hb2⟩
    rw[tm,length_map,take_length] at hb2
    walk_at "rb"
    rw[mR]
    walk_at "rb"
    refine⟨by rw[length_map];omega,fun p hp=>⟨fun i acc U=>acc=(es.take i).map (kh L)/\U=aD am p acc,⟨rfl,rfl⟩,?_,?_⟩⟩
    ·rintro i x acc bi hx ha ⟨e0,e1⟩
     obtain⟨e,ee,rfl⟩:=sv hx
     obtain⟨i1,i2⟩:=inL e (mem_of_getElem? ee)
     rw[show pairD e = .tuple [dN e.1,dN e.2] from rfl]
     walk_at "rb"
     refine⟨trivial,⟨trivial,trivial⟩,?_⟩
     rw[if_pos trivial]
     have hb3:bi.b pb=some (.dict (book L)):=by rw[e1];exact hb2
     refine⟨pb,_,_,_,rfl,rfl,hb3,jA L nL i1,pb,_,_,_,rfl,rfl,hb3,jA L nL i2,?_⟩
     refine⟨ha,?_,?_⟩
     ·rw[e0,take_snoc ee,map_append];rfl
     ·rw[e1,ig]
    ·rintro acc bi ⟨e0,e1⟩ ha
     rw[length_map,take_length] at e0
     subst e0
     rw[e1,qd hp]
     have:=q L am sb2 mk
     unfold qj at this
     rw[if_pos (by rw[hl,c])] at this
     rw[length_map,show ((L.length:Nat):Int)-1=((L.length-1:Nat):Int) by omega]
     exact this
  ·rw[bP (by simp[c])]
   walk_at "rb"
   have:=q L U sb mk
   unfold qj at this
   rw[if_neg (by rw[hl];exact fun z=>c (Option.some.inj z))] at this
   exact this
end
noncomputable def HA(d:Int)(w h:N3)(ts:List Tl):Prop:=aJ d/\Ok w/\Bd 2100 w/\Ok h/\Bd 2100 h/\(∀t∈ts,rY d t)/\(∀t∈ts,Bd4 2100 t)/\IF 8000 ts/\ts.length<=60
noncomputable def Hh(d:Int)(w h:N3)(ts:List Tl)(b:Bool):Prop:=∃P Q,iN d P (ax::w::gS ts)/\iN d Q (ax::h::gP ts)/\b=(decide (P.getLast? = some w)&&(decide (Q.getLast? = some h)&&GR.qo (ts.map (cp P Q)) (P.length-1) (Q.length-1)))
noncomputable def qE:DSp:=fun ds Z K=>∃(d:Int) (w h:N3) (ts:List Tl),ds=[.v (.int d),.v (dN w),.v (dN h),.v (.tuple (ts.map tlD))]/\HA d w h ts/\∀b U,dE Z U->Hh d w h ts b->K (.v (.bool b)) U
noncomputable def vi:DSp:=fun ds Z K=>∃(d:Int) (w h:N3) (ts:List Tl),ds=[.v (.int d),.v (dN w),.v (dN h),.v (.tuple (ts.map tlD))]/\HA d w h ts/\∀b,Hh d w h ts b->K (.v (.bool b)) Z
theorem yy{ds:List D}{Z:Mu}{Q:DK}(h:qE ds Z Q):ds.length=4:=by obtain⟨_,_,_,_,rfl,_⟩:=h;rfl
theorem wG{ds:List D}{Z:Mu}{Qd:DK}(h:vi ds Z Qd):qE ds Z (frz Z Qd):=by
 obtain⟨d,w,h,ts,rfl,pre,q⟩:=h
 exact⟨d,w,h,ts,rfl,pre,fun b U sb mk=>⟨sb,q b mk⟩⟩
noncomputable def j2:DTS:=
 (aK (bc (az xb (ag (ah 0) (ag (nN [none,none,none,none] (gR (ah 3)) (bU 4 (aA (ao 0) (aA (ao 1) (aA (ao 2) (aA (ao 3) bY))))) gp (bT (ag (ah 0) (ag (az iZ (ag (ah 0) (ag (ah 2) aw))) aw)))) (ag (ah 1) aw)))) (bU 2 (aA (ao 4) (aA (ao 5) bY))))
 (aK (bc (az xb (ag (ah 0) (ag (nN [none,none,none,none] (gR (ah 3)) (bU 4 (aA (ao 0) (aA (ao 1) (aA (ao 2) (aA (ao 3) bY))))) gp (bT (ag (ah 1) (ag (az iZ (ag (ah 1) (ag (ah 3) aw))) aw)))) (ag (ah 2) aw)))) (bU 2 (aA (ao 6) (aA (ao 7) bY))))
 (aK (cF (fZ (dB (dOp Bo (ah 4) (dC .none))) (dB (dOp Bo (ah 6) (dC .none)))) (bb (dC (.bool false))) bA)
 (aK (bc se (ao 8))
 (aK (nU (Kk (ag (ah 4) (ag (ah 6) aw))) (bU 2 (aA (ao 9) (aA (ao 10) bY))) (nU (qN (ag (dOp aM (ah 9) (dC (.int 0))) (ag (dOp aM (ah 9) (dC (.int 1))) aw))) (ao 11) (nU (qN (ag (dOp aM (ah 10) (dC (.int 0))) (ag (dOp aM (ah 10) (dC (.int 1))) aw))) (ao 12) (aK (cF (dB (dOp (D5 false) (bT (ag (ah 11) (ag (ah 12) aw))) (ah 8))) (bb (dC (.bool false))) bA)
 (AV (ah 8) (bT (ag (ah 11) (ag (ah 12) aw))) (dC (.bool true)))))))
 (bb (dOp (cM false) (dCB IG (ag (ah 8) aw)) (d3 (ah 5) (ah 7)))))))))
section
variable {Z:Mu}{Qd:DK}{ds:List D}
theorem fmX(ts:List Tl)(f:PyData->Option PyData)(h:∀t,f (tlD t)=some (pairD (t.x,plus t.x t.w))):(ts.map tlD).filterMap f=(ts.map fun t=>(t.x,plus t.x t.w)).map pairD:=by rw[map_map];exact KS h ts
theorem fmY(ts:List Tl)(f:PyData->Option PyData)(h:∀t,f (tlD t)=some (pairD (t.y,plus t.y t.h))):(ts.map tlD).filterMap f=(ts.map fun t=>(t.y,plus t.y t.h)).map pairD:=by rw[map_map];exact KS h ts
noncomputable def fSX:PyData->Option PyData
 |.tuple [.tuple [.int a1,.int a2,.int a3],_,.tuple [.int c1,.int c2,.int c3],_]=>some (pairD (⟨a1,a2,a3⟩,plus ⟨a1,a2,a3⟩ ⟨c1,c2,c3⟩))
 |_=>none
noncomputable def fSY:PyData->Option PyData
 |.tuple [_,.tuple [.int a1,.int a2,.int a3],_,.tuple [.int c1,.int c2,.int c3]]=>some (pairD (⟨a1,a2,a3⟩,plus ⟨a1,a2,a3⟩ ⟨c1,c2,c3⟩))
 |_=>none
theorem P2(ts:List Tl):l7 (ts.map fun t=>(t.x,plus t.x t.w))=gS ts:=by unfold l7 gS;rw[List.flatMap_map]
theorem Qm(ts:List Tl):l7 (ts.map fun t=>(t.y,plus t.y t.h))=gP ts:=by unfold l7 gP;rw[List.flatMap_map]
noncomputable def cO(x:Nat×Nat):List Int×PyData:=(eR x,.bool true)
theorem fu{x:Nat×Nat}:∀(l:List (Nat×Nat)),(bX (l.map cO) (eR x)).isSome=decide (x∈l)
 |[]=>rfl
 |y::l=>by
  rw[map_cons]
  by_cases e:y=x
  ·subst e
   rw[dO (show (cO y).1=eR y from rfl)]
   simp
  ·rw[dP (show ¬ (cO y).1=eR x from fun z=>e (Ed z)),fu l]
   refine decide_eq_decide.mpr ?_
   rw[mem_cons]
   exact⟨.inr,fun h=>h.resolve_left fun z=>e z.symm⟩
noncomputable def HS(L:List N3)(es:List (N3×N3))(m:N3):PyData:=if L.getLast? = some m then .list (es.map (kh L)) else .none
noncomputable def NH(L:List N3)(m:N3):Int:=if L.getLast? = some m then ((L.length-1:Nat):Int) else 0
theorem D1{L:List N3}{es:List (N3×N3)}{m:N3}(h:L.getLast? = some m):HS L es m = .list (es.map (kh L)):=if_pos h
theorem DP{L:List N3}{es:List (N3×N3)}{m:N3}(h:¬ L.getLast? = some m):HS L es m = .none:=if_neg h
theorem EX{L:List N3}{m:N3}(h:L.getLast? = some m):NH L m=((L.length-1:Nat):Int):=if_pos h
theorem D0{L:List N3}{m:N3}(h:¬ L.getLast? = some m):NH L m=0:=if_neg h
theorem Fh{L:List N3}{es:List (N3×N3)}{m:N3}:qj L es m = .tuple [HS L es m,.int (NH L m)]:=by unfold qj HS NH;split<;>rfl
structure JG(Z:Mu)(p:Addr)(done:List (Nat×Nat))(U:Mu):Prop where
 sub:dE Z U
 n:Z.b p=none
 s:U.b p=some (.dict (done.map cO))
 nodup:done.Nodup
theorem JG.put{Z U:Mu}{p:Addr}{done:List (Nat×Nat)}{x:Nat×Nat}(h:JG Z p done U)(hx:x ∉ done):JG Z p (done++[x]) (bo U p (.dict (i5 (done.map cO) (eR x) (.bool true)))) where
 sub:=h.sub.box h.n
 n:=h.n
 s:=by
  rw[ba,Ea,map_append]
  ·rfl
  ·have:=fu (x:=x) done
   rw[decide_eq_false hx] at this
   cases z:bX (done.map cO) (eR x) with
   |none=>rfl
   |some v=>rw[z] at this;cases this
 nodup:=List.nodup_append.mpr ⟨h.nodup,by simp,fun a ha b hb e=>hx (by rw[List.mem_singleton.mp hb] at e;exact e▸ha)⟩
theorem Ql{P Q:List N3}{ts:List Tl}{i:Nat}{x:PyData}(h:(rQ ((ts.map fun t=>(t.x,plus t.x t.w)).map (kh P)) ((ts.map fun t=>(t.y,plus t.y t.h)).map (kh Q)))[i]? = some x) :
  ∃t,ts[i]? = some t/\x = .tuple [.tuple [.int (P.idxOf t.x:Nat),.int (P.idxOf (plus t.x t.w):Nat)],.tuple [.int (Q.idxOf t.y:Nat),.int (Q.idxOf (plus t.y t.h):Nat)]]:=by
 induction ts generalizing i with
 |nil=>cases h
 |cons t ts ih=>
  cases i with
  |zero=>exact⟨t,rfl,(Option.some.inj h).symm⟩
  |succ i=>exact ih h
theorem MR{P Q:List N3}{ts:List Tl}:(rQ ((ts.map fun t=>(t.x,plus t.x t.w)).map (kh P)) ((ts.map fun t=>(t.y,plus t.y t.h)).map (kh Q))).length=ts.length:=by
 induction ts with
 |nil=>rfl
 |cons t ts ih=>exact congrArg (· + 1) ih
theorem yd(h:qE ds Z Qd):j2 ‹Qd› (aL ["_law_d","_law_width","_law_height","_law_tiles","_law_wide","_law_columns","_law_high","_law_rows","_law_met","_law_span","_law_side_here","_law_column","_law_row"] ds) Z:=by
 obtain⟨d,w,k,ts,rfl,⟨hd,ow,bw,ok,bk,tv,bd,mi,lt⟩,q⟩:=h
 unfold j2
 walk_at "rb"
 rw[kU]
 walk_at "rb"
 refine⟨by rw[length_map];omega,fSX,?_,?_⟩
 ·intro x hx U _
  obtain⟨t,ht,rfl⟩:=List.mem_map.mp hx
  have V:=tv t ht
  have B:=bd t ht
  rw[show tlD t = .tuple [dN t.x,dN t.y,dN t.w,dN t.h] from rfl]
  walk_at "rb"
  refine⟨trivial,trivial,?_⟩
  rw[if_pos trivial]
  refine⟨t.x,t.w,rfl,V.ox,V.ow,B.x.mono ⋯,B.w.mono ⋯,?_⟩
  walk_at "rb"
  exact⟨trivial,rfl⟩
 rw[fmX ts fSX fun t=>rfl]
 refine⟨d,_,w,rfl,⟨hd,?_,ow,bw.mono ⋯,by rw[length_map];omega⟩,fun P mp=>?_⟩
 ·intro e he
  obtain⟨t,ht,rfl⟩:=List.mem_map.mp he
  have V:=tv t ht
  have B:=bd t ht
  exact⟨V.ox,B.x.mono ⋯,bS V.ox V.ow,(rW V.ox V.ow B.x B.w).mono ⋯⟩
 rw[P2] at mp
 rw[Fh]
 walk_at "rb"
 refine⟨trivial,?_⟩
 rw[kU]
 walk_at "rb"
 refine⟨by rw[length_map];omega,fSY,?_,?_⟩
 ·intro x hx U _
  obtain⟨t,ht,rfl⟩:=List.mem_map.mp hx
  have V:=tv t ht
  have B:=bd t ht
  rw[show tlD t = .tuple [dN t.x,dN t.y,dN t.w,dN t.h] from rfl]
  walk_at "rb"
  refine⟨trivial,trivial,?_⟩
  rw[if_pos trivial]
  refine⟨t.y,t.h,rfl,V.oy,V.oh,B.y.mono ⋯,B.h.mono ⋯,?_⟩
  walk_at "rb"
  exact⟨trivial,rfl⟩
 rw[fmY ts fSY fun t=>rfl]
 refine⟨d,_,k,rfl,⟨hd,?_,ok,bk.mono ⋯,by rw[length_map];omega⟩,fun Q mq=>?_⟩
 ·intro e he
  obtain⟨t,ht,rfl⟩:=List.mem_map.mp he
  have V:=tv t ht
  have B:=bd t ht
  exact⟨V.oy,B.y.mono ⋯,bS V.oy V.oh,(rW V.oy V.oh B.y B.h).mono ⋯⟩
 rw[Qm] at mq
 rw[Fh]
 walk_at "rb"
 refine⟨trivial,?_⟩
 by_cases c1:P.getLast? = some w
 ·rw[D1 c1,EX c1]
  rw[Ks]
  walk_at "rb"
  by_cases c2:Q.getLast? = some k
  ·rw[D1 c2,EX c2]
   rw[Ks]
   walk_at "rb"
   intro p hp
   have onM:∀t∈ts,OnM P Q t:=fun t ht=>⟨(mp.mem _).mpr (mem_cons_of_mem _ (mem_cons_of_mem _ (List.mem_flatMap.mpr ⟨t,ht,mem_cons_self⟩))),(mp.mem _).mpr (mem_cons_of_mem _ (mem_cons_of_mem _ (List.mem_flatMap.mpr ⟨t,ht,mem_cons_of_mem _ mem_cons_self⟩))),(mq.mem _).mpr (mem_cons_of_mem _ (mem_cons_of_mem _ (List.mem_flatMap.mpr ⟨t,ht,mem_cons_self⟩))),(mq.mem _).mpr (mem_cons_of_mem _ (mem_cons_of_mem _ (List.mem_flatMap.mpr ⟨t,ht,mem_cons_of_mem _ mem_cons_self⟩)))⟩
   obtain⟨X,Y,onX,lX,lY,fm⟩:=mi
   obtain⟨oX,oY⟩:=Ex onX
   have fP:P.length<=X.length+2:=pU hd mp (X:=ax::w::X) fun x hx=>by
    rcases List.mem_cons.mp hx with rfl|hx
    ·exact mem_cons_self
    ·rcases List.mem_cons.mp hx with rfl|hx
     ·exact mem_cons_of_mem _ mem_cons_self
     ·exact mem_cons_of_mem _ (mem_cons_of_mem _ (oX x hx))
   have fQ:Q.length<=Y.length+2:=pU hd mq (X:=ax::k::Y) fun x hx=>by
    rcases List.mem_cons.mp hx with rfl|hx
    ·exact mem_cons_self
    ·rcases List.mem_cons.mp hx with rfl|hx
     ·exact mem_cons_of_mem _ mem_cons_self
     ·exact mem_cons_of_mem _ (mem_cons_of_mem _ (oY x hx))
   have few:(P.length-1)*(Q.length-1)<=9000:=by
    refine le_trans (mul_le_mul (show P.length-1<=X.length+1 by omega) (show Q.length-1<=Y.length+1 by omega)) ?_
    rw[Nat.add_mul,Nat.mul_add]
    omega
   clear fP fQ fm lX lY onX oX oY
   have fits:=Hm onM
   have lp:P.length<=1000000:=by
    have:=GR.pig (fw hd mp.up) fun x hx=>(mp.mem x).mp hx
    rw[length_cons,length_cons,qi] at this
    omega
   have lq:Q.length<=1000000:=by
    have:=GR.pig (fw hd mq.up) fun x hx=>(mq.mem x).mp hx
    rw[length_cons,length_cons,qm] at this
    omega
   rw[jj]
   walk_at "rb"
   refine⟨fun i ρ U=>∃r9 r10 r11 r12,ρ=[some (.v (.int d)),some (.v (dN w)),some (.v (dN k)),some (.v (.tuple (ts.map tlD))),some (.v (.list ((ts.map fun t=>(t.x,plus t.x t.w)).map (kh P)))),some (.v (.int ((P.length-1:Nat):Int))),some (.v (.list ((ts.map fun t=>(t.y,plus t.y t.h)).map (kh Q)))),some (.v (.int ((Q.length-1:Nat):Int))),some (.b p),r9,r10,r11,r12]/\JG Z p (GR.cells ((ts.map (cp P Q)).take i)) U,⟨_,_,_,_,rfl,⟨dE.refl.box hp,hp,by rw[ba];rfl,List.nodup_nil⟩⟩,?_,?_⟩
   ·rintro i x ρ U hx ⟨r9,r10,r11,r12,rfl,st⟩
    obtain⟨t,et,rfl⟩:∃t,ts[i]? = some t/\x = .tuple [.tuple [.int (P.idxOf t.x:Nat),.int (P.idxOf (plus t.x t.w):Nat)],.tuple [.int (Q.idxOf t.y:Nat),.int (Q.idxOf (plus t.y t.h):Nat)]]:=Ql hx
    have o:=onM t (mem_of_getElem? et)
    have eb:(ts.map (cp P Q))[i]? = some (cp P Q t):=by rw[getElem?_map,et];rfl
    have ea:GR.cells ((ts.map (cp P Q)).take (i+1))=GR.cells ((ts.map (cp P Q)).take i)++GR.cellsOf (cp P Q t):=qh eb
    have pa:GR.cells ((ts.map (cp P Q)).take (i+1)) <+: GR.cells (ts.map (cp P Q)):=rV
    walk_at "rb"
    refine⟨trivial,?_⟩
    rw[jj]
    walk_at "rb"
    have e1:=GR.dc o.l
    have e2:=GR.dc o.r
    have e3:=GR.dc o.b
    have e4:=GR.dc o.t
    refine⟨∅,fun c ρ U=>∃r11 r12,ρ=[some (.v (.int d)),some (.v (dN w)),some (.v (dN k)),some (.v (.tuple (ts.map tlD))),some (.v (.list ((ts.map fun t=>(t.x,plus t.x t.w)).map (kh P)))),some (.v (.int ((P.length-1:Nat):Int))),some (.v (.list ((ts.map fun t=>(t.y,plus t.y t.h)).map (kh Q)))),some (.v (.int ((Q.length-1:Nat):Int))),some (.b p),some (.v (.tuple [.int (P.idxOf t.x:Nat),.int (P.idxOf (plus t.x t.w):Nat)])),some (.v (.tuple [.int (Q.idxOf t.y:Nat),.int (Q.idxOf (plus t.y t.h):Nat)])),r11,r12]/\JG Z p (GR.cells ((ts.map (cp P Q)).take i)++((GR.run (P.idxOf t.x) (P.idxOf (plus t.x t.w))).take c).flatMap (fun a=>(GR.run (Q.idxOf t.y) (Q.idxOf (plus t.y t.h))).map fun b=>(a,b))) U,⟨_,_,rfl,by rw[take_zero,List.flatMap_nil,append_nil];exact st⟩,?_,?_⟩
    ·rintro c x ρ am hx2 ⟨s10,s11,rfl,st2⟩
     obtain⟨rfl,hc⟩:=tU hx2
     have ec:(GR.run (P.idxOf t.x) (P.idxOf (plus t.x t.w)))[c]? = some (P.idxOf t.x+c):=BF ∅
     have eb2:GR.cells ((ts.map (cp P Q)).take i)++((GR.run (P.idxOf t.x) (P.idxOf (plus t.x t.w))).take (c+1)).flatMap (fun a=>(GR.run (Q.idxOf t.y) (Q.idxOf (plus t.y t.h))).map fun b=>(a,b))=(GR.cells ((ts.map (cp P Q)).take i)++((GR.run (P.idxOf t.x) (P.idxOf (plus t.x t.w))).take c).flatMap (fun a=>(GR.run (Q.idxOf t.y) (Q.idxOf (plus t.y t.h))).map fun b=>(a,b)))++(GR.run (Q.idxOf t.y) (Q.idxOf (plus t.y t.h))).map fun b=>(P.idxOf t.x+c,b):=by
      rw[qh ec,append_assoc]
     have pb:GR.cells ((ts.map (cp P Q)).take i)++((GR.run (P.idxOf t.x) (P.idxOf (plus t.x t.w))).take (c+1)).flatMap (fun a=>(GR.run (Q.idxOf t.y) (Q.idxOf (plus t.y t.h))).map fun b=>(a,b)) <+: GR.cells ((ts.map (cp P Q)).take (i+1)):=by
      rw[ea]
      exact (List.prefix_append_right_inj _).mpr rV
     generalize GR.cells ((ts.map (cp P Q)).take i)++((GR.run (P.idxOf t.x) (P.idxOf (plus t.x t.w))).take c).flatMap (fun a=>(GR.run (Q.idxOf t.y) (Q.idxOf (plus t.y t.h))).map fun b=>(a,b))=pre at st2 eb2
     walk_at "rb"
     rw[jj]
     walk_at "rb"
     refine⟨∅,fun j ρ U=>∃r12,ρ=[some (.v (.int d)),some (.v (dN w)),some (.v (dN k)),some (.v (.tuple (ts.map tlD))),some (.v (.list ((ts.map fun t=>(t.x,plus t.x t.w)).map (kh P)))),some (.v (.int ((P.length-1:Nat):Int))),some (.v (.list ((ts.map fun t=>(t.y,plus t.y t.h)).map (kh Q)))),some (.v (.int ((Q.length-1:Nat):Int))),some (.b p),some (.v (.tuple [.int (P.idxOf t.x:Nat),.int (P.idxOf (plus t.x t.w):Nat)])),some (.v (.tuple [.int (Q.idxOf t.y:Nat),.int (Q.idxOf (plus t.y t.h):Nat)])),some (.v (.int ((P.idxOf t.x:Nat)+(c:Nat)))),r12]/\JG Z p (pre++((GR.run (Q.idxOf t.y) (Q.idxOf (plus t.y t.h))).take j).map fun b=>(P.idxOf t.x+c,b)) U,⟨_,rfl,by rw[take_zero,map_nil,append_nil];exact st2⟩,?_,?_⟩
     ·rintro j x ρ bi hx3 ⟨s11,rfl,st3⟩
      obtain⟨rfl,hj⟩:=tU hx3
      have ek:(GR.run (Q.idxOf t.y) (Q.idxOf (plus t.y t.h)))[j]? = some (Q.idxOf t.y+j):=BF ∅
      have es:pre++((GR.run (Q.idxOf t.y) (Q.idxOf (plus t.y t.h))).take (j+1)).map (fun b=>(P.idxOf t.x+c,b))=(pre++((GR.run (Q.idxOf t.y) (Q.idxOf (plus t.y t.h))).take j).map fun b=>(P.idxOf t.x+c,b))++[(P.idxOf t.x+c,Q.idxOf t.y+j)]:=by
       rw[take_succ,ek,map_append,append_assoc]
       rfl
      have pk:pre++((GR.run (Q.idxOf t.y) (Q.idxOf (plus t.y t.h))).take (j+1)).map (fun b=>(P.idxOf t.x+c,b)) <+: GR.cells (ts.map (cp P Q)):=by
       refine List.IsPrefix.trans ?_ (pb.trans pa)
       rw[eb2]
       exact (List.prefix_append_right_inj _).mpr (by rw[List.map_take];exact List.take_prefix _ _)
      have pk0:pre++((GR.run (Q.idxOf t.y) (Q.idxOf (plus t.y t.h))).take j).map (fun b=>(P.idxOf t.x+c,b)) <+: GR.cells (ts.map (cp P Q)):=List.IsPrefix.trans (by rw[es];exact List.prefix_append _ _) pk
      rw[es] at pk
      generalize pre++((GR.run (Q.idxOf t.y) (Q.idxOf (plus t.y t.h))).take j).map (fun b=>(P.idxOf t.x+c,b))=done at st3 es pk pk0
      have le:done.length<=9000:=le_trans (sub_len fits st3.nodup fun x hx=>pk0.subset hx) few
      have kc:nR (.v (.tuple [.int ((P.idxOf t.x:Nat)+(c:Nat)),.int ((Q.idxOf t.y:Nat)+(j:Nat))]))=some (eR (P.idxOf t.x+c,Q.idxOf t.y+j)):=by
       show some _=some _
       unfold eR
       simp only[Int.natCast_add]
      walk_at "rb"
      refine⟨_,p,_,kc,rfl,st3.s,by show (done.map cO).length<=9800;rw[length_map];omega,fun z=>absurd z ⋯,?_⟩
      walk_at "rb"
      have lc:=fu (x:=(P.idxOf t.x+c,Q.idxOf t.y+j)) done
      by_cases cc:(P.idxOf t.x+c,Q.idxOf t.y+j)∈done
      ·rw[bP (by show (bX _ _).isSome=true;rw[lc];exact decide_eq_true cc)]
       walk_at "rb"
       refine q false bi st3.sub ⟨P,Q,mp,mq,?_⟩
       rw[decide_eq_true c1,decide_eq_true c2,Bool.true_and,Bool.true_and]
       unfold GR.qo
       rw[decide_eq_false,Bool.false_and]
       intro hn
       have:=List.nodup_append.mp (hn.sublist pk.sublist)
       exact this.2.2 _ cc _ mem_cons_self rfl
      ·rw[bQ (by show ¬ (bX _ _).isSome=true;rw[lc,decide_eq_true_iff];exact cc)]
       walk_at "rb"
       refine⟨p,_,_,_,rfl,rfl,kc,st3.s,by rw[length_map];omega,_,rfl,?_⟩
       rw[es]
       exact st3.put cc
     ·rintro ρ bi ⟨s11,rfl,st3⟩
      rw[mP,show ((Q.idxOf (plus t.y t.h):Nat)-(Q.idxOf t.y:Nat):Int).toNat=Q.idxOf (plus t.y t.h)-Q.idxOf t.y by omega,ug] at st3
      exact⟨_,_,rfl,by rw[eb2];exact st3⟩
    ·rintro ρ bi ⟨s10,s11,rfl,st3⟩
     rw[mP,show ((P.idxOf (plus t.x t.w):Nat)-(P.idxOf t.x:Nat):Int).toNat=P.idxOf (plus t.x t.w)-P.idxOf t.x by omega,ug] at st3
     exact⟨_,_,_,_,rfl,by rw[ea];exact st3⟩
   ·rintro ρ U ⟨r9,r10,r11,r12,rfl,st⟩
    rw[MR,List.take_of_length_le (by rw[length_map];exact le_refl _)] at st
    have le:(GR.cells (ts.map (cp P Q))).length<=9000:=le_trans (sub_len fits st.nodup fun x hx=>hx) few
    walk_at "rb"
    refine⟨p,_,rfl,st.s,by show (List.map cO _).length<=9800;rw[length_map];omega,?_⟩
    walk_at "rb"
    refine⟨nO (Sz.of (n:=20) ∅) (Sz.of (n:=20) ∅) ⋯,?_⟩
    refine q _ U st.sub ⟨P,Q,mp,mq,?_⟩
    rw[decide_eq_true c1,decide_eq_true c2,Bool.true_and,Bool.true_and]
    unfold GR.qo
    rw[decide_eq_true st.nodup,Bool.true_and]
    refine decide_eq_decide.mpr ?_
    show ((List.map cO (GR.cells (ts.map (cp P Q)))).length:Int)=_↔_
    rw[length_map,<- Int.natCast_mul,Int.natCast_inj]
  ·rw[DP c2,D0 c2]
   rw[Mk]
   walk_at "rb"
   exact q false Z .refl ⟨P,Q,mp,mq,by rw[decide_eq_false c2];simp⟩
 ·rw[DP c1,D0 c1]
  rw[Mk]
  walk_at "rb"
  exact q false Z .refl ⟨P,Q,mp,mq,by rw[decide_eq_false c1];rfl⟩
end
noncomputable def Oc(d:Int)(t:PyData)(b:Bool):Prop:=(lC d t=false->b=false)/\∀w h ts,t=cm w h ts->vN d w h ts->Hh d w h ts b
noncomputable def lJ:DSp:=fun ds Z K=>∃(d:Int) (t:PyData),ds=[.v (.int d),.v t]/\aJ d/\Lb t/\∀b,Oc d t b->K (.v (.bool b)) Z
theorem zV{ds:List D}{Z:Mu}{Q:DK}(h:lJ ds Z Q):ds.length=2:=by obtain⟨_,_,rfl,_⟩:=h;rfl
noncomputable def gC:DTS:=
 (aK (cF (fZ (du (dB (wX "tuple" (ah 1)))) (dB (dOp (cM true) (dCB dw (ag (ah 1) aw)) (dC (.int 3))))) (bb (dC (.bool false))) bA)
 (aK (bc (ah 1) (bU 3 (aA (ao 2) (aA (ao 3) (aA (ao 4) bY)))))
 (aK (cF (fZ (du (dB (az dq (ag (ah 0) (ag (ah 2) aw))))) (du (dB (az dq (ag (ah 0) (ag (ah 3) aw)))))) (bb (dC (.bool false))) bA)
 (aK (cF (fZ (du (dB (wX "tuple" (ah 4)))) (du (dB (GP rLe rLe (dC (.int 1)) (dCB dw (ag (ah 4) aw)) (dC (.int 60)))))) (bb (dC (.bool false))) bA)
 (bb (kA (dCB vV (ag (nN [none,some 0] (gR (ah 4)) (ao 0) gp (az qU (ag (ah 1) (ag (ah 0) aw)))) aw)) (az vi (ag (ah 0) (ag (ah 2) (ag (ah 3) (ag (ah 4) aw)))))))))))
section
variable {Z:Mu}{Qd:DK}{ds:List D}
theorem uc(h:lJ ds Z Qd):gC ‹Qd› (aL ["_law_d","_law_thing","_law_width","_law_height","_law_tiles"] ds) Z:=by
 obtain⟨d,t,rfl,hd,⟨fp,lay⟩,q⟩:=h
 have qf:lC d t=false->Qd (.v (.bool false)) Z:=fun fb=>q false ⟨fun _=>rfl,fun w k ts e v=>by rw[e,Iy v] at fb;cases fb⟩
 unfold gC
 walk_at "rb"
 by_cases ht:∃xs,t = .tuple xs
 ·obtain⟨xs,rfl⟩:=ht
  rw[bQ (by rw[show isT "tuple" (.tuple xs)=true from rfl];decide)]
  walk_at "rb"
  by_cases l3:xs.length=3
  ·obtain⟨a,b,c,rfl⟩:=yZ l3
   rw[bQ (by simp)]
   obtain⟨pa,pb,pc⟩:=fp a b c rfl
   walk_at "rb"
   refine⟨trivial,d,a,rfl,hd,pa.1,fun x e=>(pa.2 x e).mono ⋯,?_⟩
   walk_at "rb"
   by_cases hc:∃us,c = .tuple us
   ·obtain⟨us,rfl⟩:=hc
    have ef:lC d (.tuple [a,b,.tuple us])=(bR d a&&(bR d b&&(decide (1<=us.length)&&(decide (us.length<=60)&&us.all (ji d))))):=rfl
    obtain⟨lu,tu⟩:=pc us rfl
    cases aa:bR d a with
    |false=>
     rw[bP (by rfl)]
     walk_at "rb"
     exact qf (by rw[ef,aa];rfl)
    |true=>
     rw[bQ ⋯]
     walk_at "rb"
     refine⟨d,b,rfl,hd,pb.1,fun x e=>(pb.2 x e).mono ⋯,?_⟩
     walk_at "rb"
     cases ab:bR d b with
     |false=>
      rw[bP (by rfl)]
      walk_at "rb"
      exact qf (by rw[ef,aa,ab];rfl)
     |true=>
      rw[bQ ⋯]
      walk_at "rb"
      rw[bQ (by rw[show isT "tuple" (.tuple us)=true from rfl];decide)]
      walk_at "rb"
      by_cases g1:1<=us.length
      ·rw[bP (decide_eq_true ∅)]
       walk_at "rb"
       by_cases g2:us.length<=60
       ·rw[bQ (by simp;omega)]
        walk_at "rb"
        rw[kU]
        walk_at "rb"
        refine⟨∅,fun x=>some (.bool (ji d x)),?_,?_⟩
        ·intro x hx U _
         walk_at "rb"
         refine⟨⟨trivial,trivial⟩,?_⟩
         rw[if_pos trivial]
         exact⟨d,x,rfl,hd,tu x hx,rfl,rfl⟩
        rw[pP]
        dsimp only
        cases al:us.all (ji d) with
        |false=>
         rw[bQ (by rw[all_map];simpa using al)]
         exact qf (by rw[ef,al];simp)
        |true=>
         rw[bP (by rw[all_map];simpa using al)]
         have fb:lC d (.tuple [a,b,.tuple us])=true:=by rw[ef,aa,ab,al,decide_eq_true g1,decide_eq_true g2];rfl
         obtain⟨w,k,ts,e,v⟩:=HE fb
         obtain⟨bw,bk,bd,mi⟩:=lay w k ts e
         have e':=e
         unfold cm at e'
         simp only[PyData.tuple.injEq,List.cons.injEq,and_true] at e'
         obtain⟨rfl,rfl,rfl⟩:=e'
         walk_at "rb"
         refine⟨d,w,k,ts,rfl,⟨hd,v.ow,bw,v.oh,bk,v.tile,bd,mi,v.few⟩,fun b0 lc=>?_⟩
         walk_at "rb"
         refine q b0 ⟨fun z=>(by rw[fb] at z;cases z),fun w' k' ts' e'' v'=>?_⟩
         obtain⟨rfl,rfl,rfl⟩:=Fz (w:=w) (h:=k) (ts:=ts) e''
         exact lc
       ·rw[bP (by simp;omega)]
        walk_at "rb"
        exact qf (by rw[ef,decide_eq_false g2];simp)
      ·rw[bQ (by simp;omega)]
       walk_at "rb"
       exact qf (by rw[ef,decide_eq_false g1];simp)
   ·have fb:=xj (d:=d) (a:=a) (b:=b) hc
    cases aa:bR d a with
    |false=>
     rw[bP (by rfl)]
     walk_at "rb"
     exact qf fb
    |true=>
     rw[bQ ⋯]
     walk_at "rb"
     refine⟨d,b,rfl,hd,pb.1,fun x e=>(pb.2 x e).mono ⋯,?_⟩
     walk_at "rb"
     cases ab:bR d b with
     |false=>
      rw[bP (by rfl)]
      walk_at "rb"
      exact qf fb
     |true=>
      rw[bQ ⋯]
      walk_at "rb"
      rw[bP (by rw[ml hc];rfl)]
      walk_at "rb"
      exact qf fb
  ·rw[bP (by simp;omega)]
   walk_at "rb"
   exact qf (uK l3)
 ·rw[bP (by rw[ml ht];rfl)]
  walk_at "rb"
  exact qf (u9 ht)
end
theorem ve{x y:N3}(ox:Ok x)(oy:Ok y):plus x (less y x)=y:=
 ((aR ox).plus ox (aZ oy ox) ((aR oy).less oy ox (aR ox))).eq (bS ox (aZ oy ox)) oy (aR oy) (by grind) (by grind)
theorem Gn{x y:N3}(ox:Ok x)(oy:Ok y):less (plus x y) x=y:=
 (((aR ox).plus ox oy (aR oy)).less (bS ox oy) ox (aR ox)).eq (aZ (bS ox oy) ox) oy (aR oy) (by grind) (by grind)
theorem Lg{d:Int}{x y:N3}(hd:aJ d)(ox:Ok x)(oy:Ok y):dif d (plus x y) x=sg d y.a y.b:=by rw[<- tZ hd (bS ox oy) ox,Gn ox oy]
theorem qQ{d:Int}{x:N3}:dif d x ax=sg d x.a x.b:=by
 unfold dif ax
 simp only[Int.mul_one,Int.zero_mul,Int.sub_zero]
theorem Gb{d:Int}{x:N3}(hd:aJ d):0<=sg d x.a x.b↔¬ dif d ax x=1:=by
 rw[dif_neg hd,qQ]
 have:=nz d x.a x.b
 omega
theorem DN{d:Int}(hd:aJ d){P:List N3}(up:da d P)(nn:∀x∈P,0<=sg d x.a x.b)(h0:ax∈P):P.head? = some ax:=by
 cases P with
 |nil=>exact absurd h0 not_mem_nil
 |cons x P=>
  rcases List.mem_cons.mp h0 with e|e
  ·rw[<- e];rfl
  ·exact absurd ((List.pairwise_cons.mp up).1 ax e) ((Gb hd).mp (nn x mem_cons_self))
theorem Nd{P:List N3}{x:N3}(h:P.getLast? = some x)(hl:P.length-1<P.length):P[P.length-1]=x:=by
 rw[List.getLast?_eq_getElem?,getElem?_eq_getElem hl] at h
 exact Option.some.inj h
theorem A3{P:List N3}{e:N3}:gF P e=true↔P.head? = some ax/\P.getLast? = some e:=by unfold gF;rw[and_eq_true,decide_eq_true_iff,decide_eq_true_iff]
theorem xP{P:List N3}{x:N3}(h:P.getLast? = some x):x∈P:=List.mem_of_mem_getLast? h
noncomputable def eY(xs ys:List N3)(q:GR.Bx):Tl:=⟨xs.getD q.l ax,ys.getD q.b ax,less (xs.getD q.r ax) (xs.getD q.l ax),less (ys.getD q.t ax) (ys.getD q.b ax)⟩
structure fD(d:Int)(xs:List N3)(C:Nat):Prop where
 len:xs.length=C+1
 up:da d xs
 ok:∀x∈xs,Ok x
 zero:xs[0]? = some ax
theorem getD_at{xs:List N3}{i:Nat}(h:i<xs.length):xs.getD i ax=xs[i]:=by
 rw[getD_eq_getElem?_getD,getElem?_eq_getElem h];rfl
theorem Pk{xs:List N3}{i:Nat}(nd:xs.Nodup)(h:i<xs.length):xs.idxOf xs[i]=i:=by
 have hm:xs[i]∈xs:=getElem_mem h
 have e:=GR.yC hm
 have hl:=GR.dc hm
 rcases Nat.lt_trichotomy (xs.idxOf xs[i]) i with z|z|z
 ·exact absurd e (List.pairwise_iff_getElem.mp nd _ _ hl h z)
 ·exact z
 ·exact absurd e.symm (List.pairwise_iff_getElem.mp nd _ _ h hl z)
theorem idx_map{P:List N3}{f:N3->Nat}{x:N3}(hx:x∈P)(inj:∀a∈P,∀b∈P,f a=f b->a=b):P.idxOf x=(P.map f).idxOf (f x):=by
 induction P with
 |nil=>exact absurd hx not_mem_nil
 |cons y P ih=>
  rw[map_cons,List.idxOf_cons,List.idxOf_cons]
  by_cases e:y=x
  ·subst e;simp
  ·have e2:f y≠f x:=fun z=>e (inj y mem_cons_self x hx z)
   have hx':x∈P:=by
    rcases List.mem_cons.mp hx with z|z
    ·exact absurd z.symm e
    ·exact z
   simp only[beq_iff_eq,e,e2,if_false,cond_false,beq_eq_false_iff_ne.mpr e,beq_eq_false_iff_ne.mpr e2]
   rw[ih hx' fun a ha b hb=>inj a (mem_cons_of_mem _ ha) b (mem_cons_of_mem _ hb)]
theorem PB{d:Int}(hd:aJ d){xs:List N3}(up:da d xs){a b:N3}(ha:a∈xs)(hb:b∈xs)(h:dif d b a=1):xs.idxOf a<xs.idxOf b:=by
 have ea:=GR.yC ha
 have eb:=GR.yC hb
 rcases Nat.lt_trichotomy (xs.idxOf a) (xs.idxOf b) with z|z|z
 ·exact z
 ·have:xs[xs.idxOf a]'(GR.dc ha)=xs[xs.idxOf b]'(GR.dc hb):=by congr 1
  rw[ea,eb] at this
  rw[this] at h
  exact absurd h (Cb hd)
 ·have:=List.pairwise_iff_getElem.mp up _ _ (GR.dc hb) (GR.dc ha) z
  rw[ea,eb] at this
  rw[dif_neg hd,this] at h
  exact absurd h ⋯
theorem Oz{d:Int}(hd:aJ d){xs P:List N3}(up:da d xs)(hp:da d P)(sub:∀x∈P,x∈xs):GR.Up (P.map xs.idxOf):=by
 unfold GR.Up
 rw[pairwise_map]
 exact List.Pairwise.imp_of_mem (fun {a b} ha hb h=>PB hd up (sub a ha) (sub b hb) h) hp
theorem Nf{d:Int}(hd:aJ d){P:List N3}{w:N3}(up:da d P)(hw:w∈P)(top:∀x∈P,¬ dif d x w=1):P.getLast? = some w:=by
 have l0:0<P.length:=List.length_pos_of_mem hw
 rw[List.getLast?_eq_getElem?,getElem?_eq_getElem ∅]
 have e:=GR.yC hw
 have hl:=GR.dc hw
 rcases lt_or_ge (P.idxOf w) (P.length-1) with z|z
 ·have:=List.pairwise_iff_getElem.mp up _ _ hl ∅ z
  rw[e] at this
  exact absurd this (top _ (getElem_mem _))
 ·have:P[P.idxOf w]'hl=P[P.length-1]:=by congr 1;omega
  rw[<- this,e]
theorem fD.at{d:Int}{xs:List N3}{C i:Nat}(f:fD d xs C)(h:i<=C):i<xs.length:=by have:=f.len;omega
theorem fD.bD{d:Int}{xs:List N3}{C i:Nat}(f:fD d xs C)(h:i<=C):Ok (xs.getD i ax):=by rw[getD_at (f.at h)];exact f.ok _ (getElem_mem _)
theorem fD.lt{d:Int}{xs:List N3}{C i j:Nat}(f:fD d xs C)(h:i<j)(hj:j<=C):dif d (xs.getD j ax) (xs.getD i ax)=1:=by
 rw[getD_at (f.at hj),getD_at (f.at ∅)]
 exact List.pairwise_iff_getElem.mp f.up _ _ _ _ h
theorem fD.nn{d:Int}(hd:aJ d){xs:List N3}{C i:Nat}(f:fD d xs C)(h:i<=C):0<=sg d (xs.getD i ax).a (xs.getD i ax).b:=by
 have z:xs.getD 0 ax=ax:=by rw[getD_eq_getElem?_getD,f.zero];rfl
 cases i with
 |zero=>rw[z,show sg d ax.a ax.b=0 from iL.mpr ⟨rfl,rfl⟩];exact Int.le_refl _
 |succ i=>
  have:=f.lt (i:=0) (j:=i+1) ∅ h
  rw[z,qQ] at this
  omega
theorem fD.pos{d:Int}{xs:List N3}{C:Nat}(f:fD d xs C)(h:0<C):sg d (xs.getD C ax).a (xs.getD C ax).b=1:=by
 have z:xs.getD 0 ax=ax:=by rw[getD_eq_getElem?_getD,f.zero];rfl
 have:=f.lt (i:=0) (j:=C) h (le_refl _)
 rw[z,qQ] at this
 exact this
theorem uB{d:Int}{xs ys:List N3}{C R:Nat}(fx:fD d xs C){q:GR.Bx}(hl:q.l<q.r)(hr:q.r<=C):plus (eY xs ys q).x (eY xs ys q).w=xs.getD q.r ax:=ve (fx.bD ∅) (fx.bD hr)
theorem uV{d:Int}{xs ys:List N3}{C R:Nat}(fy:fD d ys R){q:GR.Bx}(hl:q.b<q.t)(hr:q.t<=R):plus (eY xs ys q).y (eY xs ys q).h=ys.getD q.t ax:=ve (fy.bD ∅) (fy.bD hr)
theorem Mw{d:Int}(hd:aJ d){xs ys:List N3}{C R:Nat}(fx:fD d xs C)(fy:fD d ys R){q:GR.Bx}(h:q.l<q.r/\q.r<=C/\q.b<q.t/\q.t<=R):rY d (eY xs ys q) where
 ox:=fx.bD ∅
 oy:=fy.bD ∅
 ow:=aZ (fx.bD ∅) (fx.bD ∅)
 oh:=aZ (fy.bD ∅) (fy.bD ∅)
 sx:=fx.nn hd ∅
 sy:=fy.nn hd ∅
 sw:=by
  show sg d (less _ _).a (less _ _).b=1
  rw[tZ hd (fx.bD ∅) (fx.bD ∅)]
  exact fx.lt h.1 h.2.1
 sh:=by
  show sg d (less _ _).a (less _ _).b=1
  rw[tZ hd (fy.bD ∅) (fy.bD ∅)]
  exact fy.lt h.2.2.1 h.2.2.2
theorem HQ{d:Int}(hd:aJ d){xs P es:List N3}{C:Nat}(f:fD d xs C)(hC:0<C)(mp:iN d P es)(sub:∀x∈es,x∈xs)(h0:ax∈es)(h1:xs.getD C ax∈es) :
  gF P (xs.getD C ax)=true/\GR.Up (P.map xs.idxOf)/\(∀a∈P.map xs.idxOf,a<=C)/\(∀i,i<=C->xs.getD i ax∈es->i∈P.map xs.idxOf/\P.idxOf (xs.getD i ax)=(P.map xs.idxOf).idxOf i):=by
 have subP:∀x∈P,x∈xs:=fun x hx=>sub x ((mp.mem x).mp hx)
 have nd:=fw hd f.up
 have nnx:∀x∈xs,0<=sg d x.a x.b:=fun x hx=>by
  obtain⟨i,hi,rfl⟩:=List.mem_iff_getElem.mp hx
  have:=f.nn hd (i:=i) (by have:=f.len;omega)
  rw[getD_at hi] at this
  exact this
 have inj:∀a∈P,∀b∈P,xs.idxOf a=xs.idxOf b->a=b:=fun a ha b hb e=>by
  have e1:=GR.yC (subP a ha)
  have e2:=GR.yC (subP b hb)
  have:xs[xs.idxOf a]'(GR.dc (subP a ha))=xs[xs.idxOf b]'(GR.dc (subP b hb)):=by congr 1
  rw[e1,e2] at this
  exact this
 refine⟨A3.mpr ⟨DN hd mp.up (fun x hx=>nnx x (subP x hx)) ((mp.mem _).mpr h0),Nf hd mp.up ((mp.mem _).mpr h1) fun x hx h=>?_⟩,Oz hd f.up mp.up subP,fun a ha=>?_,fun i hi he=>?_⟩
 ·obtain⟨i,hi,rfl⟩:=List.mem_iff_getElem.mp (subP x hx)
  have hi':i<=C:=by have:=f.len;omega
  rcases lt_or_eq_of_le hi' with z|z
  ·have:=f.lt z (le_refl _)
   rw[getD_at hi] at this
   rw[dif_neg hd,this] at h
   exact absurd h ⋯
  ·subst z
   rw[getD_at hi] at h
   exact Cb hd h
 ·obtain⟨x,hx,rfl⟩:=List.mem_map.mp ha
  have:=GR.dc (subP x hx)
  have:=f.len
  omega
 ·have hp:xs.getD i ax∈P:=(mp.mem _).mpr he
  have e:xs.idxOf (xs.getD i ax)=i:=by rw[getD_at (f.at hi)];exact Pk nd (f.at hi)
  refine⟨List.mem_map.mpr ⟨_,hp,e⟩,?_⟩
  rw[idx_map hp inj,e]
theorem A4{d:Int}(hd:aJ d){xs ys:List N3}{C R:Nat}(fx:fD d xs C)(fy:fD d ys R)(hC:0<C)(hR:0<R){qs:List GR.Bx}(cov:GR.iV qs C R){P Q:List N3}(mp:iN d P (gS (qs.map (eY xs ys))))(mq:iN d Q (gP (qs.map (eY xs ys)))) :
  (gF P (xs.getD C ax)&&(gF Q (ys.getD R ax)&&GR.qo ((qs.map (eY xs ys)).map (cp P Q)) (P.length-1) (Q.length-1)))=true:=by
 have inX:∀q∈qs,xs.getD q.l ax∈gS (qs.map (eY xs ys))/\xs.getD q.r ax∈gS (qs.map (eY xs ys)):=fun q hq=>by
  have h:=cov.fits q hq
  refine⟨List.mem_flatMap.mpr ⟨_,mem_map_of_mem hq,mem_cons_self⟩,List.mem_flatMap.mpr ⟨_,mem_map_of_mem hq,?_⟩⟩
  rw[uB (R:=R) fx h.1 h.2.1]
  exact mem_cons_of_mem _ mem_cons_self
 have inY:∀q∈qs,ys.getD q.b ax∈gP (qs.map (eY xs ys))/\ys.getD q.t ax∈gP (qs.map (eY xs ys)):=fun q hq=>by
  have h:=cov.fits q hq
  refine⟨List.mem_flatMap.mpr ⟨_,mem_map_of_mem hq,mem_cons_self⟩,List.mem_flatMap.mpr ⟨_,mem_map_of_mem hq,?_⟩⟩
  rw[uV (C:=C) fy h.2.2.1 h.2.2.2]
  exact mem_cons_of_mem _ mem_cons_self
 have subX:∀x∈gS (qs.map (eY xs ys)),x∈xs:=fun x hx=>by
  obtain⟨t,ht,h⟩:=List.mem_flatMap.mp hx
  obtain⟨q,hq,rfl⟩:=List.mem_map.mp ht
  have g:=cov.fits q hq
  rw[uB (R:=R) fx g.1 g.2.1] at h
  simp only[mem_cons,not_mem_nil,or_false] at h
  rcases h with rfl|rfl
  ·show xs.getD q.l ax∈xs
   rw[getD_at (fx.at ∅)];exact getElem_mem _
  ·rw[getD_at (fx.at ∅)];exact getElem_mem _
 have subY:∀x∈gP (qs.map (eY xs ys)),x∈ys:=fun x hx=>by
  obtain⟨t,ht,h⟩:=List.mem_flatMap.mp hx
  obtain⟨q,hq,rfl⟩:=List.mem_map.mp ht
  have g:=cov.fits q hq
  rw[uV (C:=C) fy g.2.2.1 g.2.2.2] at h
  simp only[mem_cons,not_mem_nil,or_false] at h
  rcases h with rfl|rfl
  ·show ys.getD q.b ax∈ys
   rw[getD_at (fy.at ∅)];exact getElem_mem _
  ·rw[getD_at (fy.at ∅)];exact getElem_mem _
 have zx:xs.getD 0 ax=ax:=by rw[getD_eq_getElem?_getD,fx.zero];rfl
 have zy:ys.getD 0 ax=ax:=by rw[getD_eq_getElem?_getD,fy.zero];rfl
 obtain⟨⟨q1,m1,e1⟩,⟨q2,m2,e2⟩,⟨q3,m3,e3⟩,⟨q4,m4,e4⟩⟩:=cov.ends hC hR
 obtain⟨r1,u1,a1,i1⟩:=HQ hd fx hC mp subX (by have:=(inX q1 m1).1;rw[e1,zx] at this;exact this) (by have:=(inX q2 m2).2;rw[e2] at this;exact this)
 obtain⟨r2,u2,a2,i2⟩:=HQ hd fy hR mq subY (by have:=(inY q3 m3).1;rw[e3,zy] at this;exact this) (by have:=(inY q4 m4).2;rw[e4] at this;exact this)
 rw[r1,r2,Bool.true_and,Bool.true_and]
 have g:∀q∈qs,GR.OnG (P.map xs.idxOf) (Q.map ys.idxOf) q:=fun q hq=>by
  have h:=cov.fits q hq
  exact⟨(i1 q.l ∅ (inX q hq).1).1,(i1 q.r ∅ (inX q hq).2).1,(i2 q.b ∅ (inY q hq).1).1,(i2 q.t ∅ (inY q hq).2).1⟩
 have key:=GR.Qn u1 u2 cov g a1 a2
 rw[length_map,length_map] at key
 have e:(qs.map (eY xs ys)).map (cp P Q)=qs.map (GR.cb (P.map xs.idxOf) (Q.map ys.idxOf)):=by
  rw[map_map]
  refine List.map_congr_left fun q hq=>?_
  have h:=cov.fits q hq
  show cp P Q (eY xs ys q)=_
  unfold cp GR.cb
  rw[uB (R:=R) fx h.1 h.2.1,uV (C:=C) fy h.2.2.1 h.2.2.2,<- (i1 q.l ∅ (inX q hq).1).2,<- (i1 q.r ∅ (inX q hq).2).2,<- (i2 q.b ∅ (inY q hq).1).2,<- (i2 q.t ∅ (inY q hq).2).2]
  rfl
 rw[e]
 exact key
theorem bO{P:Program}{w:World}{K:PySem.W.Frag}{mg:Str->Option Value}{base:Heap}{CX:CXT}{k:Nat}{f:Addr}{fd:FuncData}{ps:List Str}{sp sp':DSp}(F:br P w K mg base CX k f fd ps (spD K sp))
  (h:∀ds Z Qd,sp' ds Z Qd->sp ds Z Qd):br P w K mg base CX k f fd ps (spD K sp'):=by
 refine F.imp fun vs H Q E h'=>?_
 obtain⟨ds,Z,Qd,ok,r,s,kk⟩:=h'
 exact⟨ds,Z,Qd,ok,r,h _ _ _ s,kk⟩
noncomputable def Oa(a:Addr)(Z U:Mu):Prop:=Step a Z U/\∀b,U.b b=Z.b b
noncomputable def nk:DSp:=fun ds Z Q=>∃(a:Addr) (n:Int),ds=[.m a,.v (.int n)]/\1<=n/\n<=1000000000/\Bag Z a/\∀r U,0<=r->r<n->Oa a Z U->Q (.v (.int r)) U
theorem Ey{ds:List D}{Z:Mu}{Q:DK}(h:nk ds Z Q):ds.length=2:=by obtain⟨_,_,rfl,_⟩:=h;rfl
theorem bp(ds:List D)(Z:Mu)(Qd:DK)(h:cL ds Z Qd):nk ds Z Qd:=by
 obtain⟨a,n,rfl,h1,h2,hb,q⟩:=h
 exact⟨a,n,rfl,h1,h2,hb,fun r U r0 r1 s=>q r U r0 r1 s.1⟩
noncomputable def bxD(q:GR.Bx):PyData:=.tuple [.int (q.l:Nat),.int (q.b:Nat),.int ((q.r-q.l:Nat):Int),.int ((q.t-q.b:Nat):Int)]
noncomputable def Dg:DSp:=fun ds Z Q=>∃(p:Addr) (done:List (Nat×Nat)) (c r C:Nat),ds=[.b p,.v (.int (c:Nat)),.v (.int (r:Nat)),.v (.int (C:Nat))]/\Z.b p=some (.dict (done.map cO))/\done.length<=9000/\c<=C /\
 ∀n:Nat,c+n<=C->(∀i,c<=i->i<c+n->(i,r) ∉ done)->(c+n=C\/(c+n,r)∈done)->Q (.v (.int (n:Nat))) Z
theorem G7{ds:List D}{Z:Mu}{Q:DK}(h:Dg ds Z Q):ds.length=4:=by obtain⟨_,_,_,_,_,rfl,_⟩:=h;rfl
noncomputable def uO:DSp:=fun ds Z Q=>∃(a:Addr) (C R:Nat),ds=[.m a,.v (.int (C:Nat)),.v (.int (R:Nat))]/\0<C/\0<R/\C<=60/\R<=60/\C*R<=900/\Bag Z a /\
 ∀f qs U,Z f=none->GR.iV qs C R->U f=some (qs.map bxD)->lR a Z U->Q (.m f) U
noncomputable def zi:DSp:=fun ds Z Q=>∃(a:Addr) (C R:Nat),ds=[.m a,.v (.int (C:Nat)),.v (.int (R:Nat))]/\0<C/\0<R/\C<=60/\R<=60/\C*R<=900/\Bag Z a /\
 ∀qs U,GR.iV qs C R->lR a Z U->Q (.v (.list (qs.map bxD))) U
theorem Ar{ds:List D}{Z:Mu}{Q:DK}(h:uO ds Z Q):ds.length=3:=by obtain⟨_,_,_,rfl,_⟩:=h;rfl
theorem lR.off{a f:Addr}{Z U:Mu}(hf:Z f=none)(hb:Bag Z a)(h:lR a Z U):lR a Z (xE U f):=by
 have af:a≠f:=fun e=>by obtain⟨g,m,h,_⟩:=hb;rw[e,hf] at h;cases h
 obtain⟨⟨g,m,e,r⟩,k⟩:=h
 refine⟨⟨g,m,by rw[sH af];exact e,r⟩,fun b hb ds hd=>?_⟩
 have bf:b≠f:=fun e=>by rw[e,hf] at hd;cases hd
 rw[sH bf]
 exact k b hb ds hd
theorem wU{ds:List D}{Z:Mu}{Qd:DK}(h:zi ds Z Qd):uO ds Z (RH Z Qd):=by
 obtain⟨a,C,R,rfl,h1,h2,h3,h4,h5,hb,q⟩:=h
 exact⟨a,C,R,rfl,h1,h2,h3,h4,h5,hb,fun f qs U hf cov e st=>⟨hf,_,e,q qs _ cov (st.off hf hb)⟩⟩
noncomputable def ll:DTS:=
 (aK (cF (dB (dOp rGt (dOp aM (ah 0) (dC (.int 0))) (dC (.int 0)))) (aK (bc (zf (dOp aM (ah 0) (dC (.int 0))) (ah 1)) (ao 2))
 (aK (bc (wQ (dOp aM (ah 0) (dC (.int 0))) (ah 1)) (HX (ah 0) (dC (.int 0))))
 (bb (ah 2)))) bA)
 (aK (bc (zf (de (d3 (dOp aM (ah 0) (dC (.int 1))) (dC (.int 48271))) (dC (.int 2531011))) (dC (.int 2147483647))) (HX (ah 0) (dC (.int 1))))
 (bb (zf (wQ (zf (OK (dOp aM (ah 0) (dC (.int 1))) (dC (.int 3))) (dC (.int 2147483629))) (dC (.int 64))) (ah 1)))))
noncomputable def mM:DTS:=
 (aK (bc (dC (.int 0)) (ao 4))
 (aK (qA (y6 (dB (dOp rLt (de (ah 1) (ah 4)) (ah 3))) (dB (dOp (D5 true) (bT (ag (de (ah 1) (ah 4)) (ag (ah 2) aw))) (ah 0)))) (bc (de (ah 4) (dC (.int 1))) (ao 4)))
 (bb (ah 4))))
section
variable {Z:Mu}{Qd:DK}{ds:List D}
theorem zF(h:nk ds Z Qd):ll ‹Qd› (aL ["_law_bag_here","_law_many","_law_digit"] ds) Z:=by
 obtain⟨a,n,rfl,h0,h1,⟨g,m,hb,hg,hm,hm'⟩,q⟩:=h
 unfold ll
 walk_at "rn"
 rw[hb]
 walk_at "rn"
 rw[hb]
 walk_at "rn"
 have n0:n≠0:=by omega
 have i0:ixN 2 0=some 0:=by rfl
 have i1:ixN 2 1=some 1:=by rfl
 by_cases hg0:0<g
 ·rw[if_pos (by simpa using hg0)]
  simp only[hb]
  walk_at "rn"
  obtain⟨r0,r1⟩:=oI g (show 0<n by omega)
  refine⟨n0,?_⟩
  simp only[hb]
  walk_at "rn"
  refine⟨divC n0 ∅,?_⟩
  simp only[hb,length_cons,length_nil,Nat.reduceAdd,i0,List.set_cons_zero]
  exact q _ _ r0 r1 ⟨Step.set (NY hg ∅) hm hm',fun _=>rfl⟩
 ·rw[if_neg (by simpa using hg0)]
  simp only[hb,i1,aE]
  walk_at "rn"
  obtain⟨s0,s1⟩:=oI (m*48271+2531011) (show (0:Int)<2147483647 by decide)
  generalize (m*48271+2531011).fmod 2147483647=w at s0 s1 ⊢
  obtain⟨r0,r1⟩:=oI ((((w ^ Int.toNat 3).fmod 2147483629).fdiv 64)) (show 0<n by omega)
  refine⟨mulL ∅,⋯,?_⟩
  refine⟨⟨⋯,⋯,∅⟩,(by show (2147483629:Int)≠0;decide),divC ⋯ ⋯,n0,?_⟩
  exact q _ _ r0 r1 ⟨Step.set hg s0 ∅,fun _=>rfl⟩
theorem Jp{x:Nat×Nat}{l:List (Nat×Nat)}(h:x ∉ l):bX (l.map cO) (eR x)=none:=by
 have:=fu (x:=x) l
 rw[decide_eq_false h] at this
 cases z:bX (l.map cO) (eR x) with
 |none=>rfl
 |some v=>rw[z] at this;cases this
theorem JI{x:Nat×Nat}{l:List (Nat×Nat)}:i5 (l.map cO) (eR x) (.bool true)=(if x∈l then l else l++[x]).map cO:=by
 by_cases h:x∈l
 ·rw[if_pos h]
  unfold i5
  rw[fu,decide_eq_true h,if_pos rfl,map_map]
  refine List.map_congr_left fun y _=>?_
  show (if (cO y).1=eR x then ((cO y).1,PyData.bool true) else cO y)=cO y
  split<;>rfl
 ·rw[if_neg h,Ea (Jp h),map_append]
  rfl
theorem Cj(h:Dg ds Z Qd):mM ‹Qd› (aL ["_law_met","_law_column","_law_row","_law_columns","_law_found"] ds) Z:=by
 obtain⟨p,done,c,r,C,rfl,hp,few,hc,q⟩:=h
 unfold mM
 walk_at "rb"
 rw[Cc]
 refine⟨fun m ρ U=>∃n:Nat,ρ=[some (.b p),some (.v (.int (c:Nat))),some (.v (.int (r:Nat))),some (.v (.int (C:Nat))),some (.v (.int (n:Nat)))]/\U=Z/\m=C-(c+n)/\c+n<=C/\∀i,c<=i->i<c+n->(i,r) ∉ done,⟨_,0,rfl,rfl,rfl,∅,fun i h1 h2=>by omega⟩,?_⟩
 rintro m ρ U ⟨n,rfl,rfl,rfl,h1,h2⟩
 walk_at "rb"
 by_cases g:c+n<C
 ·rw[bP (decide_eq_true ∅)]
  walk_at "rb"
  have kc:nR (.v (.tuple [.int ((c:Nat)+(n:Nat)),.int (r:Nat)]))=some (eR (c+n,r)):=by
   show some _=some _
   unfold eR
   simp only[Int.natCast_add]
  refine⟨_,p,_,kc,rfl,hp,by show (done.map cO).length<=9800;rw[length_map];omega,fun _=>⟨_,rfl⟩,?_⟩
  walk_at "rb"
  have lc:=fu (x:=(c+n,r)) done
  by_cases cc:(c+n,r)∈done
  ·rw[if_neg (by show ¬ (!(bX _ _).isSome)=true;rw[lc,decide_eq_true cc];decide)]
   exact q n h1 h2 (.inr cc)
  ·rw[if_pos (by show (!(bX _ _).isSome)=true;rw[lc,decide_eq_false cc];decide)]
   refine⟨_,?_,n+1,by simp,trivial,rfl,∅,fun i i1 i2=>?_⟩
   ·omega
   ·rcases lt_or_ge i (c+n) with z|z
    ·exact h2 i i1 z
    ·rw[show i=c+n by omega];exact cc
 ·rw[bQ (by simp;omega)]
  walk_at "rb"
  exact q n h1 h2 (.inl ∅)
end
structure Blk(Z:Mu)(a p f:Addr)(L:List GR.Bx)(done:List (Nat×Nat))(U:Mu):Prop where
 bag:Bag U a
 keep:∀b,b≠a->∀ds,Z b=some ds->U b=some ds
 hf:U f=some (L.map bxD)
 hp:U.b p=some (.dict (done.map cO))
 nd:done.Nodup
 nf:Z f=none
 af:a≠f
noncomputable def jX:DTS:=
 (aK (bc se (ao 3))
 (aK (bc (qx aw) (ao 4))
 (aK (bc (dOp aM (wB (ag (dC (.int 1)) (ag (dC (.int 2)) (ag (dC (.int 4)) (ag (dC (.int 60)) aw))))) (az nk (ag (ah 0) (ag (dC (.int 4)) aw)))) (ao 5))
 (aK (nU (oR (ag (ah 2) aw)) (ao 6) (nU (oR (ag (ah 1) aw)) (ao 7) (cF (dB (dOp (D5 true) (bT (ag (ah 7) (ag (ah 6) aw))) (ah 3))) (aK (bc (de (dC (.int 1)) (az nk (ag (ah 0) (ag (dCB (CL min) (ag (ah 5) (ag (az Dg (ag (ah 3) (ag (ah 7) (ag (ah 6) (ag (ah 1) aw))))) aw))) aw)))) (ao 8))
 (aK (bc (de (dC (.int 1)) (az nk (ag (ah 0) (ag (dCB (CL min) (ag (ah 5) (ag (oq (ah 2) (ah 6)) aw))) aw)))) (ao 9))
 (aK (nE (Jf (ah 4) (bT (ag (ah 7) (ag (ah 6) (ag (ah 8) (ag (ah 9) aw)))))))
 (nU (oR (ag (d3 (ah 8) (ah 9)) aw)) (ao 10) (AV (ah 3) (bT (ag (de (ah 7) (zf (ah 10) (ah 8))) (ag (de (ah 6) (wQ (ah 10) (ah 8))) aw))) (dC (.bool true))))))) bA)))
 (bb (ah 4))))))
section
variable {Z:Mu}{Qd:DK}{ds:List D}
theorem Bag.off{Z:Mu}{a f:Addr}{es:List PyData}(h:Bag Z a)(n:a≠f):Bag (aD Z f es) a:=by
 obtain⟨g,m,e,r⟩:=h
 exact⟨g,m,by rw[aV n];exact e,r⟩
theorem Blk.step{a p f:Addr}{L:List GR.Bx}{done:List (Nat×Nat)}{ad am:Mu}(h:Blk Z a p f L done ad)(s:Oa a ad am):Blk Z a p f L done am where
 bag:=s.1.1
 keep:=fun b n ds e=>by rw[s.1.2 b n];exact h.keep b n ds e
 hf:=by rw[s.1.2 f h.af.symm];exact h.hf
 hp:=by rw[s.2 p];exact h.hp
 nd:=h.nd
 nf:=h.nf
 af:=h.af
theorem Blk.app{a p f:Addr}{L:List GR.Bx}{q:GR.Bx}{done:List (Nat×Nat)}{ad:Mu}(h:Blk Z a p f L done ad):Blk Z a p f (L++[q]) done (aD ad f (L.map bxD++[bxD q])) where
 bag:=h.bag.off h.af
 keep:=fun b n ds e=>by
  have bf:b≠f:=fun z=>by rw[z,h.nf] at e;cases e
  rw[aV bf]
  exact h.keep b n ds e
 hf:=by rw[aE,map_append];rfl
 hp:=h.hp
 nd:=h.nd
 nf:=h.nf
 af:=h.af
theorem Blk.put{a p f:Addr}{L:List GR.Bx}{x:Nat×Nat}{done:List (Nat×Nat)}{ad:Mu}(h:Blk Z a p f L done ad):Blk Z a p f L (if x∈done then done else done++[x]) (bo ad p (.dict (i5 (done.map cO) (eR x) (.bool true)))) where
 bag:=h.bag
 keep:=h.keep
 hf:=h.hf
 hp:=by rw[ba,JI]
 nd:=by
  split
  ·exact h.nd
  ·rename_i hx
   exact List.nodup_append.mpr ⟨h.nd,by simp,fun a ha b hb e=>hx (by rw[List.mem_singleton.mp hb] at e;exact e▸ha)⟩
 nf:=h.nf
 af:=h.af
theorem Dt{x y:Nat×Nat}{c r w h k:Nat}(hk:k<w*h):(c+k % w,r+k / w)∈GR.cellsOf ⟨c,c+w,r,r+h⟩:=by
 have hw:0<w:=by
  rcases Nat.eq_zero_or_pos w with z|z
  ·rw[z,Nat.zero_mul] at hk;omega
  ·exact z
 have a:=Nat.mod_lt k hw
 have b:k / w<h:=Nat.div_lt_of_lt_mul hk
 rw[GR.bN]
 generalize k % w=u at a
 generalize k / w=v at b
 unfold GR.Bx.has
 dsimp only
 omega
theorem u7{qs:List GR.Bx}{C R:Nat}(fits:∀q∈qs,q.l<q.r/\q.r<=C/\q.b<q.t/\q.t<=R)(ap:qs.Pairwise GR.Apart):qs.length<=C*R:=by
 have nd:(qs.map fun q=>(q.l,q.b)).Nodup:=by
  unfold List.Nodup
  rw[pairwise_map]
  refine List.Pairwise.imp_of_mem (fun {a b} ha hb h e=>?_) ap
  have fa:=fits a ha
  have fb:=fits b hb
  injection e with e1 e2
  exact h a.l a.b ⟨le_refl _,fa.1,le_refl _,fa.2.2.1⟩ ⟨∅,∅,∅,∅⟩
 have:=GR.pig nd (m:=GR.cellsOf ⟨0,C,0,R⟩) fun x hx=>by
  obtain⟨q,hq,rfl⟩:=List.mem_map.mp hx
  have f:=fits q hq
  exact GR.bN.mpr ⟨zero_le _,by show q.l<C;omega,zero_le _,by show q.b<R;omega⟩
 rw[length_map,GR.sX] at this
 exact this
theorem J6{i j c r w h:Nat}(hc:(i,j)∈GR.cellsOf ⟨c,c+w,r,r+h⟩):∃k,k<w*h/\(i,j)=(c+k % w,r+k / w):=by
 rw[GR.bN] at hc
 unfold GR.Bx.has at hc
 dsimp only at hc
 have hw:0<w:=by omega
 have hlt:i-c<w:=by omega
 refine⟨(i-c)+w*(j-r),?_,?_⟩
 ·have:w*(j-r)+w<=w*h:=by
   rw[<- Nat.mul_succ]
   exact Nat.mul_le_mul_left _ ∅
  omega
 ·rw[Nat.add_mul_mod_self_left,Nat.mod_eq_of_lt hlt,Nat.add_mul_div_left _ _ hw,Nat.div_eq_of_lt hlt]
  refine Prod.ext ?_ ?_<;>dsimp only<;>omega
theorem yg{L:List GR.Bx}{q:GR.Bx}:GR.cells (L++[q])=GR.cells L++GR.cellsOf q:=by unfold GR.cells;rw[flatMap_append];simp
theorem xK(h:uO ds Z Qd):jX ‹Qd› (aL ["_law_bag_here","_law_columns","_law_rows","_law_met","_law_found","_law_most","_law_row","_law_column","_law_wide","_law_high","_law_k"] ds) Z:=by
 obtain⟨a,C,R,rfl,hC,hR,c60,r60,cr,hb,q⟩:=h
 unfold jX
 walk_at "rb"
 intro p hp f hf
 have hf':Z f=none:=hf
 have af:a≠f:=fun e=>by obtain⟨g,m,h,_⟩:=hb;rw[e,hf'] at h;cases h
 refine⟨a,4,rfl,⋯,⋯,hb.off af,fun r ad r0 r1 s1=>?_⟩
 have base:Blk Z a p f [] [] (aD (bo Z p (.dict [])) f []):=⟨Bag.off hb af,fun b n ds e=>by
  have bf:b≠f:=fun z=>by rw[z,hf'] at e;cases e
  rw[aV bf]
  exact e,by rw[aE];rfl,by show (bo Z p (.dict [])).b p=_;rw[ba];rfl,List.nodup_nil,hf',af⟩
 have st0:Blk Z a p f [] [] ad:=base.step s1
 clear s1 base
 have hm:∃m:Nat,atI [PyData.int 1,.int 2,.int 4,.int 60] r=some (.int (m:Nat))/\1<=m/\m<=60:=by
  obtain⟨v,e,hm⟩:=tF (xs:=[PyData.int 1,.int 2,.int 4,.int 60]) r0 (by exact r1)
  simp only[mem_cons,not_mem_nil,or_false] at hm
  rcases hm with rfl|rfl|rfl|rfl
  ·exact⟨1,e,⋯,⋯⟩
  ·exact⟨2,e,⋯,⋯⟩
  ·exact⟨4,e,⋯,⋯⟩
  ·exact⟨60,e,⋯,⋯⟩
 obtain⟨m,em,m1,m60⟩:=hm
 walk_at "rb"
 rw[em]
 walk_at "rb"
 rw[jj]
 walk_at "rb"
 refine⟨∅,fun y ρ U=>∃L done r6 r7 r8 r9 r10,ρ=[some (.m a),some (.v (.int (C:Nat))),some (.v (.int (R:Nat))),some (.b p),some (.m f),some (.v (.int (m:Nat))),r6,r7,r8,r9,r10]/\Blk Z a p f L done U/\(∀x,x∈done↔x∈GR.cells L)/\GR.Laid L C R 0 y,⟨[],[],_,_,_,_,_,rfl,st0,fun x=>Iff.rfl,GR.Laid.nil⟩,?_,?_⟩
 ·rintro y x ρ U hx ⟨L,done,r6,r7,r8,r9,r10,rfl,st,mem,laid⟩
  obtain⟨rfl,hy⟩:=tU hx
  rw[Int.zero_add]
  walk_at "rb"
  rw[jj]
  walk_at "rb"
  refine⟨∅,fun c ρ U=>∃L done r7 r8 r9 r10,ρ=[some (.m a),some (.v (.int (C:Nat))),some (.v (.int (R:Nat))),some (.b p),some (.m f),some (.v (.int (m:Nat))),some (.v (.int (y:Nat))),r7,r8,r9,r10]/\Blk Z a p f L done U/\(∀x,x∈done↔x∈GR.cells L)/\GR.Laid L C R c y,⟨L,done,_,_,_,_,rfl,st,mem,laid⟩,?_,?_⟩
  ·clear st mem laid L done
   rintro c x ρ U hx2 ⟨L,done,r7,r8,r9,r10,rfl,st,mem,laid⟩
   obtain⟨rfl,hc⟩:=tU hx2
   rw[Int.zero_add]
   have hc':c<C:=by omega
   have hy':y<R:=by omega
   have fits:∀q∈L,q.r<=C/\q.t<=R:=fun q hq=>by have:=laid.fits q hq;omega
   have few:done.length<=900:=le_trans (sub_len fits st.nd fun x hx=>(mem x).mp hx) cr
   walk_at "rb"
   refine⟨_,p,_,rfl,rfl,st.hp,by show (done.map cO).length<=9800;rw[length_map];omega,fun _=>⟨_,rfl⟩,?_⟩
   walk_at "rb"
   have lc:=fu (x:=(c,y)) done
   by_cases cc:(c,y)∈done
   ·rw[bQ (by show ¬ (!(bX _ (eR (c,y))).isSome)=true;rw[lc,decide_eq_true cc];decide)]
    walk_at "rb"
    exact⟨L,done,_,_,_,_,rfl,st,mem,laid.met (GR.jC.mp ((mem _).mp cc))⟩
   ·rw[bP (by show (!(bX _ (eR (c,y))).isSome)=true;rw[lc,decide_eq_false cc];decide)]
    walk_at "rb"
    refine⟨p,done,c,y,C,rfl,st.hp,∅,∅,fun n n1 n2 n3=>?_⟩
    have n0:1<=n:=by
     rcases Nat.eq_zero_or_pos n with z|z
     ·rw[z,Nat.add_zero] at n3
      rcases n3 with n3|n3
      ·omega
      ·exact absurd n3 cc
     ·exact z
    walk_at "rb"
    refine⟨a,_,rfl,∅,∅,st.bag,fun w0 am w1 w2 s2=>?_⟩
    replace st:=st.step s2
    obtain⟨w,hw⟩:∃w:Nat,1+w0=(w:Int):=⟨(1+w0).toNat,∅⟩
    walk_at "rb"
    rw[hw]
    refine⟨a,_,rfl,∅,∅,st.bag,fun h0 bi h1 h2 s3=>?_⟩
    replace st:=st.step s3
    obtain⟨k,hk⟩:∃k:Nat,1+h0=(k:Int):=⟨(1+h0).toNat,∅⟩
    walk_at "rb"
    rw[hk,st.hf]
    walk_at "rb"
    have lL:L.length<=C*R:=u7 (fun q hq=>by have:=laid.fits q hq;omega) laid.apart
    refine⟨by rw[length_map];omega,?_⟩
    have w1':1<=w:=by omega
    have wn:w<=n:=by omega
    have k1':1<=k:=by omega
    have kR:y+k<=R:=by omega
    have free:∀i,c<=i->i<c+w->∀q∈L,¬ q.has i y:=fun i i1 i2 q hq hh=>n2 i i1 ∅ ((mem _).mpr (GR.jC.mpr ⟨q,hq,hh⟩))
    have laid2:=laid.put w1' k1' ∅ kR free
    have eb:PyData.tuple [PyData.int (c:Nat),.int (y:Nat),.int (w:Nat),.int (k:Nat)]=bxD ⟨c,c+w,y,y+k⟩:=by
     unfold bxD
     dsimp only
     rw[Nat.add_sub_cancel_left,Nat.add_sub_cancel_left]
    rw[eb]
    have st2:=st.app (q:=⟨c,c+w,y,y+k⟩)
    clear st
    have fits2:∀q∈L++[⟨c,c+w,y,y+k⟩],q.r<=C/\q.t<=R:=fun q hq=>by have:=laid2.fits q hq;omega
    have wk:w*k<=3600:=mul_le_mul (show w<=60 by omega) (show k<=60 by omega)
    rw[jj]
    walk_at "rb"
    have mk:((w:Nat):Int)*((k:Nat):Int)=((w*k:Nat):Int):=by rw[Int.natCast_mul]
    rw[mk]
    refine⟨nO (Sz.of (n:=10) ∅) (Sz.of (n:=10) ∅) ⋯,∅,fun j ρ U=>∃done' r10,ρ=[some (.m a),some (.v (.int (C:Nat))),some (.v (.int (R:Nat))),some (.b p),some (.m f),some (.v (.int (m:Nat))),some (.v (.int (y:Nat))),some (.v (.int (c:Nat))),some (.v (.int (w:Nat))),some (.v (.int (k:Nat))),r10]/\Blk Z a p f (L++[⟨c,c+w,y,y+k⟩]) done' U/\(∀x,x∈done'↔x∈GR.cells L\/∃i,i<j/\x=(c+i % w,y+i / w)),⟨done,_,rfl,st2,fun x=>by rw[mem];exact⟨.inl,fun h=>h.elim id fun ⟨i,hi,_⟩=>absurd hi (not_lt_zero _)⟩⟩,?_,?_⟩
    ·rintro j x ρ U hx3 ⟨done',r10',rfl,st3,mem3⟩
     obtain⟨rfl,hj⟩:=tU hx3
     rw[Int.zero_add]
     have hj':j<w*k:=by omega
     have sub3:∀x∈done',x∈GR.cells (L++[⟨c,c+w,y,y+k⟩]):=fun x hx=>by
      rw[yg,mem_append]
      rcases (mem3 x).mp hx with h|⟨i,hi,rfl⟩
      ·exact .inl h
      ·exact .inr (Dt (x:=(0,0)) (y:=(0,0)) ∅)
     have few3:done'.length<=900:=le_trans (sub_len fits2 st3.nd sub3) cr
     walk_at "rb"
     have em1:((j:Nat):Int).fmod ((w:Nat):Int)=((j % w:Nat):Int):=by rw[Int.fmod_eq_emod_of_nonneg _ ∅];rfl
     rw[em1,Ku]
     have kc:nR (.v (.tuple [.int ((c:Nat)+((j % w:Nat):Int)),.int ((y:Nat)+((j / w:Nat):Int))]))=some (eR (c+j % w,y+j / w)):=by
      show some _=some _
      unfold eR
      simp only[Int.natCast_add]
     refine⟨∅,zm ∅ (Sz.of (n:=10) ∅) ⋯,p,_,_,_,rfl,rfl,kc,st3.hp,by rw[length_map];omega,_,_,rfl,st3.put,fun x=>?_⟩
     have e:(x∈if (c+j % w,y+j / w)∈done' then done' else done'++[(c+j % w,y+j / w)])↔x∈done'\/x=(c+j % w,y+j / w):=by
      split
      ·rename_i z
       exact⟨.inl,fun h=>h.elim id fun h=>h▸z⟩
      ·rw[mem_append,mem_singleton]
     rw[e,mem3]
     constructor
     ·rintro ((h|⟨i,hi,rfl⟩)|rfl)
      ·exact .inl h
      ·exact .inr ⟨i,∅,rfl⟩
      ·exact .inr ⟨j,∅,rfl⟩
     ·rintro (h|⟨i,hi,rfl⟩)
      ·exact .inl (.inl h)
      ·rcases lt_or_eq_of_le (le_of_lt_succ hi) with z|z
       ·exact .inl (.inr ⟨i,z,rfl⟩)
       ·subst z;exact .inr rfl
    ·rintro ρ U ⟨done',r10',rfl,st3,mem3⟩
     rw[mP,show ((w*k:Nat):Int).toNat=w*k by omega] at mem3
     refine⟨_,done',_,_,_,_,rfl,st3,fun x=>?_,laid2⟩
     rw[mem3,yg,mem_append]
     constructor
     ·rintro (h|⟨i,hi,rfl⟩)
      ·exact .inl h
      ·exact .inr (Dt (x:=(0,0)) (y:=(0,0)) hi)
     ·rintro (h|h)
      ·exact .inl h
      ·obtain⟨i,hi,e⟩:=J6 (i:=x.1) (j:=x.2) h
       exact .inr ⟨i,hi,e⟩
  ·rintro ρ U ⟨L,done,r7,r8,r9,r10,rfl,st,mem,laid⟩
   rw[mP,show ((C:Nat):Int).toNat=C by omega] at laid
   exact⟨L,done,_,_,_,_,_,rfl,st,mem,laid.row⟩
 ·rintro ρ U ⟨L,done,r6,r7,r8,r9,r10,rfl,st,mem,laid⟩
  rw[mP,show ((R:Nat):Int).toNat=R by omega] at laid
  walk_at "rb"
  exact q f L U hf' laid.done st.hf ⟨st.bag,st.keep⟩
end
noncomputable def Six(k:Nat)(x:N3):Prop:=∃A B:Int,Rep x A B 6/\A.natAbs<=k/\B.natAbs<=k
noncomputable def yH(d:Int)(x:N3):Prop:=Ok x/\Bd 6 x/\sg d x.a x.b=1/\Six 60 x
noncomputable def tI:DSp:=fun ds Z Q=>∃(a:Addr) (d way:Int),ds=[.m a,.v (.int d),.v (.int way)]/\aJ d/\Bag Z a/\∀x U,yH d x->Step a Z U->Q (.v (dN x)) U
theorem E2{ds:List D}{Z:Mu}{Q:DK}(h:tI ds Z Q):ds.length=3:=by obtain⟨_,_,_,rfl,_⟩:=h;rfl
noncomputable def sP:DSp:=fun ds Z Q=>∃(a:Addr) (d:Int) (n:Nat),ds=[.m a,.v (.int d),.v (.int (n:Nat))]/\aJ d/\Bag Z a/\n<=60/\∀(ss:List N3) U,ss.length=n->(∀s∈ss,yH d s)->Step a Z U->Q (.v (.list (ss.map dN))) U
theorem E4{ds:List D}{Z:Mu}{Q:DK}(h:sP ds Z Q):ds.length=3:=by obtain⟨_,_,_,rfl,_⟩:=h;rfl
noncomputable def Dp:DSp:=fun ds Z Q=>∃(d:Int) (ss:List N3),ds=[.v (.list (ss.map dN))]/\aJ d/\ss.length<=60/\(∀s∈ss,yH d s)/\∀f (xs:List N3) U,Z f=none->dE Z U->fD d xs ss.length->(∀x∈xs,Six 3600 x)->U f=some (xs.map dN)->Q (.m f) U
noncomputable def CJ:DSp:=fun ds Z Q=>∃(d:Int) (ss:List N3),ds=[.v (.list (ss.map dN))]/\aJ d/\ss.length<=60/\(∀s∈ss,yH d s)/\∀xs,fD d xs ss.length->(∀x∈xs,Six 3600 x)->Q (.v (.list (xs.map dN))) Z
theorem Eg{ds:List D}{Z:Mu}{Q:DK}(h:Dp ds Z Q):ds.length=1:=by obtain⟨_,_,rfl,_⟩:=h;rfl
theorem Ad{ds:List D}{Z:Mu}{Qd:DK}(h:CJ ds Z Qd):Dp ds Z (frz Z Qd):=by
 obtain⟨d,ss,rfl,hd,l,g,q⟩:=h
 exact⟨d,ss,rfl,hd,l,g,fun f xs U hf sb fi bd e=>⟨⟨hf,sb⟩,_,e,q xs fi bd⟩⟩
noncomputable def sN:DSp:=fun ds Z Q=>∃(a:Addr) (xs:List PyData),ds=[.m a,.v (.list xs)]/\Bag Z a/\xs.length<=900/\∀(zs:List PyData) U,zs.Perm xs->lR a Z U->Q (.v (.list zs)) U
theorem Ca{ds:List D}{Z:Mu}{Q:DK}(h:sN ds Z Q):ds.length=2:=by obtain⟨_,_,rfl,_⟩:=h;rfl
noncomputable def xc:DSp:=fun ds Z Q=>∃(a:Addr),ds=[.m a]/\Bag Z a/\∀(C R:Nat) U,0<C->0<R->C<=60->R<=60->C*R<=60->Step a Z U->Q (.v (.tuple [.int (C:Nat),.int (R:Nat)])) U
theorem Fj{ds:List D}{Z:Mu}{Q:DK}(h:xc ds Z Q):ds.length=1:=by obtain⟨_,rfl,_⟩:=h;rfl
noncomputable def mK:DTS:=
 (aK (cF (dB (dOp (cM false) (ah 2) (dC (.int 0)))) (bb (bT (ag (de (dC (.int 1)) (az cL (ag (ah 0) (ag (dC (.int 6)) aw)))) (ag (dC (.int 0)) (ag (dC (.int 1)) aw))))) bA)
 (aK (cF (dB (dOp (cM false) (ah 2) (dC (.int 1)))) (bb (az eW (ag (de (dC (.int 1)) (az cL (ag (ah 0) (ag (dC (.int 9)) aw)))) (ag (dC (.int 0)) (ag (de (dC (.int 1)) (az cL (ag (ah 0) (ag (dC (.int 3)) aw)))) aw))))) bA)
 (aK (bc (az eW (ag (oq (az cL (ag (ah 0) (ag (dC (.int 19)) aw))) (dC (.int 9))) (ag (oq (az cL (ag (ah 0) (ag (dC (.int 9)) aw))) (dC (.int 4))) (ag (de (dC (.int 1)) (az cL (ag (ah 0) (ag (dC (.int 2)) aw)))) aw)))) (ao 3))
 (aK (bc (az hJ (ag (ah 1) (ag (ah 3) aw))) (ao 4))
 (aK (cF (dB (dOp (cM false) (ah 4) (dC (.int 0)))) (bb (bT (ag (dC (.int 1)) (ag (dC (.int 1)) (ag (dC (.int 1)) aw))))) bA)
 (bb (dIf (dB (dOp rGt (ah 4) (dC (.int 0)))) (ah 3) (az p5 (ag (ah 3) aw)))))))))
noncomputable def lh:DTS:=
 (aK (bc (az cL (ag (ah 0) (ag (dC (.int 4)) aw))) (ao 3))
 (aK (cF (dB (dOp (cM false) (az cL (ag (ah 0) (ag (dC (.int 4)) aw))) (dC (.int 0)))) (bb (dOp DD (wB (ag (az tI (ag (ah 0) (ag (ah 1) (ag (ah 3) aw)))) aw)) (ah 2))) bA)
 (bb (jW [none,some 0,some 1,some 3] (oR (ag (ah 2) aw)) (ao 0) gp (az tI (ag (ah 1) (ag (ah 2) (ag (ah 3) aw))))))))
noncomputable def mG:DTS:=
 (aK (bc (qx (ag (bT (ag (dC (.int 0)) (ag (dC (.int 0)) (ag (dC (.int 1)) aw)))) aw)) (ao 1))
 (aK (nU (jd (ah 0)) (ao 2) (nE (Jf (ah 1) (az iZ (ag (dOp aM (ah 1) (qL (dC (.int 1)))) (ag (ah 2) aw))))))
 (bb (ah 1))))
noncomputable def kX:DTS:=
 (aK (bc (dCB CK (ag (ah 1) aw)) (ao 2))
 (bb (jW [none,some 2,some 0] (jd (ah 1)) (ao 0) gp (G4 (ah 1) (az cL (ag (ah 2) (ag (dCB dw (ag (ah 1) aw)) aw)))))))
noncomputable def fz:DTS:=
 (aK (bc (az cL (ag (ah 0) (ag (dC (.int 16)) aw))) (ao 1))
 (aK (cF (dB (dOp (cM false) (ah 1) (dC (.int 0)))) (bb (dOp aM (wB (ag (bT (ag (dC (.int 10)) (ag (dC (.int 6)) aw))) (ag (bT (ag (dC (.int 6)) (ag (dC (.int 10)) aw))) (ag (bT (ag (dC (.int 60)) (ag (dC (.int 1)) aw))) (ag (bT (ag (dC (.int 1)) (ag (dC (.int 60)) aw))) (ag (bT (ag (dC (.int 12)) (ag (dC (.int 5)) aw))) (ag (bT (ag (dC (.int 7)) (ag (dC (.int 8)) aw))) aw))))))) (az cL (ag (ah 0) (ag (dC (.int 6)) aw))))) bA)
 (aK (cF (dB (dOp rLt (ah 1) (dC (.int 4)))) (bb (bT (ag (de (dC (.int 1)) (az cL (ag (ah 0) (ag (dC (.int 6)) aw)))) (ag (de (dC (.int 1)) (az cL (ag (ah 0) (ag (dC (.int 6)) aw)))) aw)))) bA)
 (bb (bT (ag (de (dC (.int 1)) (az cL (ag (ah 0) (ag (dC (.int 4)) aw)))) (ag (de (dC (.int 1)) (az cL (ag (ah 0) (ag (dC (.int 4)) aw)))) aw)))))))
section
variable {Z:Mu}{Qd:DK}{ds:List D}
theorem EM{a b c:Int}(ha:a.natAbs<64)(hb:b.natAbs<64)(hc:c.natAbs<64):Bd 6 ⟨a,b,c⟩:=⟨Sz.of ha,Sz.of hb,Sz.of hc⟩
theorem K8{a b c:Int}(h:c≠0)(ha:a.natAbs<64)(hb:b.natAbs<64)(hc:c.natAbs<64):Bd 6 (low a b c):=y9 h (Sz.of ha) (Sz.of hb) (Sz.of hc)
theorem Hr{d a:Int}(h:0<a):sg d a 0=1:=by
 unfold sg
 rw[if_neg ∅,if_pos ∅]
theorem Kl{a:Int}:Ok ⟨a,0,1⟩:=by
 have:=qZ a 0 (show (1:Int)≠0 by decide)
 have e:low a 0 1=⟨a,0,1⟩:=by
  obtain⟨k,_,hk,p1,p2,p3,_⟩:=lH a 0 (show (1:Int)≠0 by decide)
  have hk1:k=1:=Int.eq_one_of_mul_eq_one_right ∅ p3.symm
  subst hk1
  rw[Int.one_mul] at p1 p2 p3
  exact N3.ext' p1.symm p2.symm p3.symm
 rw[e] at this
 exact this
theorem qP{x:N3}{a b c m:Int}{k:Nat}(h:Rep x a b c)(e:c*m=6)(ha:(a*m).natAbs<=k)(hb:(b*m).natAbs<=k):Six k x:=by
 have hm:m≠0:=fun z=>by rw[z,Int.mul_zero] at e;cases e
 refine⟨a*m,b*m,⟨⋯,?_,?_⟩,ha,hb⟩
 ·have:=h.a;rw[<- e];grind
 ·have:=h.b;rw[<- e];grind
theorem Kw{x y:N3}{k l:Nat}(ox:Ok x)(oy:Ok y)(h:Six k x)(g:Six l y):Six (k+l) (plus x y):=by
 obtain⟨A,B,r,ha,hb⟩:=h
 obtain⟨A',B',r',ha',hb'⟩:=g
 have z:=r.plus ox oy r'
 refine⟨A+A',B+B',⟨⋯,?_,?_⟩,∅,∅⟩
 ·exact Int.eq_of_mul_eq_mul_left (show (6:Int)≠0 by decide) (by have:=z.a;grind)
 ·exact Int.eq_of_mul_eq_mul_left (show (6:Int)≠0 by decide) (by have:=z.b;grind)
theorem xx{x:N3}{k:Nat}(ox:Ok x)(h:Six k x)(hk:k<=4000):Bd 12 x:=by
 obtain⟨A,B,r,ha,hb⟩:=h
 have e:x=low A B 6:=r.eq ox (qZ _ _ ⋯) (jt ⋯) rfl rfl
 rw[e]
 exact y9 ⋯ (Sz.of ∅) (Sz.of ∅) (Sz.of ⋯)
theorem ES{x:N3}{k:Nat}(ox:Ok x)(h:Six k x)(hk:k<=8000):Bd 13 x:=by
 obtain⟨A,B,r,ha,hb⟩:=h
 have e:x=low A B 6:=r.eq ox (qZ _ _ ⋯) (jt ⋯) rfl rfl
 rw[e]
 exact y9 ⋯ (Sz.of ∅) (Sz.of ∅) (Sz.of ⋯)
theorem Fc{x y:N3}{k l:Nat}(ox:Ok x)(oy:Ok y)(h:Six k x)(g:Six l y):Six (k+l) (less x y):=by
 obtain⟨A,B,r,ha,hb⟩:=h
 obtain⟨A',B',r',ha',hb'⟩:=g
 have z:=r.less ox oy r'
 refine⟨A-A',B-B',⟨⋯,?_,?_⟩,∅,∅⟩
 ·exact Int.eq_of_mul_eq_mul_left (show (6:Int)≠0 by decide) (by have:=z.a;grind)
 ·exact Int.eq_of_mul_eq_mul_left (show (6:Int)≠0 by decide) (by have:=z.b;grind)
theorem IM{x:N3}{k:Nat}(h:Six k x):Six k (minus x):=by
 obtain⟨A,B,r,ha,hb⟩:=h
 exact⟨-A,-B,r.minus,∅,∅⟩
theorem BW(h:tI ds Z Qd):mK ‹Qd› (aL ["_law_bag_here","_law_d","_law_way","_law_x","_law_sign_here"] ds) Z:=by
 obtain⟨a,d,way,rfl,hd,hb,q⟩:=h
 unfold mK
 walk_at "rb"
 by_cases c0:way=0
 ·rw[bP (decide_eq_true c0)]
  walk_at "rb"
  refine⟨a,6,rfl,⋯,⋯,hb,fun r ad r0 r1 s1=>?_⟩
  walk_at "rb"
  exact q ⟨1+r,0,1⟩ ad ⟨Kl,EM ∅ ⋯ ⋯,show sg d (1+r) 0=1 from Hr ∅,qP (a:=1+r) (b:=0) (c:=1) (m:=6) ⟨⋯,rfl,rfl⟩ ⋯ ∅ ⋯⟩ s1
 rw[bQ (by simpa using c0)]
 walk_at "rb"
 by_cases c1:way=1
 ·rw[bP (decide_eq_true c1)]
  walk_at "rb"
  refine⟨a,9,rfl,⋯,⋯,hb,fun r ad r0 r1 s1=>?_⟩
  walk_at "rb"
  refine⟨a,3,rfl,⋯,⋯,s1.1,fun r' am r0' r1' s2=>?_⟩
  walk_at "rb"
  refine⟨_,_,_,rfl,∅,Sz.mono (Sz.of (n:=6) ∅) ⋯,?_⟩
  walk_at "rb"
  refine q _ am ⟨qZ _ _ ∅,K8 ∅ ∅ ⋯ ∅,?_,?_⟩ (s1.trans s2)
  ·rw[KC hd ∅]
   exact Hr ∅
  ·rcases (by omega:r'=0\/r'=1\/r'=2) with rfl|rfl|rfl
   ·exact qP (m:=6) (jt ⋯) ⋯ ∅ ⋯
   ·exact qP (m:=3) (jt ⋯) ⋯ ∅ ⋯
   ·exact qP (m:=2) (jt ⋯) ⋯ ∅ ⋯
 rw[bQ (by simpa using c1)]
 walk_at "rb"
 refine⟨a,19,rfl,⋯,⋯,hb,fun r ad r0 r1 s1=>?_⟩
 walk_at "rb"
 refine⟨a,9,rfl,⋯,⋯,s1.1,fun r' am r0' r1' s2=>?_⟩
 walk_at "rb"
 refine⟨a,2,rfl,⋯,⋯,s2.1,fun r2 bi r02 r12 s3=>?_⟩
 have s13:=(s1.trans s2).trans s3
 walk_at "rb"
 refine⟨_,_,_,rfl,∅,Sz.mono (Sz.of (n:=6) ∅) ⋯,?_⟩
 have ox:Ok (low (r-9) (r'-4) (1+r2)):=qZ _ _ ∅
 have bx:Bd 6 (low (r-9) (r'-4) (1+r2)):=K8 ∅ ∅ ∅ ∅
 have sx:Six 60 (low (r-9) (r'-4) (1+r2)):=by
  rcases (by omega:r2=0\/r2=1) with rfl|rfl
  ·exact qP (m:=6) (jt ⋯) ⋯ ∅ ∅
  ·exact qP (m:=3) (jt ⋯) ⋯ ∅ ∅
 generalize low (r-9) (r'-4) (1+r2)=x at ox bx sx
 walk_at "rb"
 refine⟨d,x,rfl,hd,bx.mono ⋯,?_⟩
 walk_at "rb"
 by_cases z:sg d x.a x.b=0
 ·rw[bP (decide_eq_true z)]
  walk_at "rb"
  exact q ⟨1,1,1⟩ bi ⟨⟨⋯,⋯⟩,EM ⋯ ⋯ ⋯,by unfold sg;simp,qP (m:=6) (aR ⟨⋯,⋯⟩) ⋯ ⋯ ⋯⟩ s13
 rw[bQ (by simpa using z)]
 walk_at "rb"
 have tri:=nz d x.a x.b
 by_cases z1:sg d x.a x.b>0
 ·rw[bP (decide_eq_true z1)]
  walk_at "rb"
  exact q x bi ⟨ox,bx,∅,sx⟩ s13
 ·rw[bQ (by simpa using z1)]
  walk_at "rb"
  refine⟨x,rfl,?_⟩
  walk_at "rb"
  refine q _ bi ⟨iX ox,sU bx,?_,IM sx⟩ s13
  show sg d (-x.a) (-x.b)=1
  rw[Cf hd]
  omega
theorem Li{a p:Addr}{U:Mu}(hb:Bag U a)(hp:Z p=none)(pa:a≠p)(k:∀b,b≠a->b≠p->U b=Z b):Step a Z (lI U p):=by
 obtain⟨g,m,e,r⟩:=hb
 refine⟨⟨g,m,by rw[iP pa];exact e,r⟩,fun b n=>?_⟩
 by_cases z:b=p
 ·rw[z,jE,hp]
 ·rw[iP z];exact k b n z
theorem CD{a p:Addr}(hb:Bag Z a)(hp:Z p=none):a≠p:=fun e=>by
 obtain⟨g,m,h,_⟩:=hb
 rw[e,hp] at h
 cases h
theorem J4{α:Type}(n:Nat)(x:α):(List.replicate n [x]).flatten=List.replicate n x:=by
 induction n with
 |zero=>rfl
 |succ n ih=>rw[replicate_succ,replicate_succ,flatten_cons,ih];rfl
theorem Ap(h:sP ds Z Qd):lh ‹Qd› (aL ["_law_bag_here","_law_d","_law_many","_law_way"] ds) Z:=by
 obtain⟨a,d,n,rfl,hd,hb,n60,q⟩:=h
 unfold lh
 walk_at "rb"
 refine⟨a,4,rfl,⋯,⋯,hb,fun way ad _ _ s1=>?_⟩
 walk_at "rb"
 refine⟨a,4,rfl,⋯,⋯,s1.1,fun r am _ _ s2=>?_⟩
 have s12:=s1.trans s2
 walk_at "rb"
 by_cases c:r=0
 ·rw[bP (decide_eq_true c)]
  walk_at "rb"
  refine⟨a,d,way,rfl,hd,s2.1,fun x bi gx s3=>?_⟩
  walk_at "rb"
  refine⟨⟨∅,∅,∅⟩,?_⟩
  have:=q (List.replicate n x) bi (by rw[List.length_replicate]) (fun s hs=>by rw[(List.mem_replicate.mp hs).2];exact gx) (s12.trans s3)
  have e:(List.replicate (((n:Nat):Int).toNat) [dN x]).flatten=(List.replicate n x).map dN:=by
   rw[show ((n:Nat):Int).toNat=n by omega]
   exact J4 n (dN x) |>.trans (by rw[List.map_replicate])
  rw[e]
  exact this
 ·rw[bQ (by simpa using c)]
  walk_at "rb"
  rw[mR]
  walk_at "rb"
  refine⟨∅,by rw[mP];omega,fun p hp=>?_⟩
  have pa:=CD s2.1 hp
  refine⟨fun i acc U=>∃ss:List N3,acc=ss.map dN/\ss.length=i/\(∀s∈ss,yH d s)/\Bag U a/\∀b,b≠a->b≠p->U b=am b,⟨[],rfl,rfl,fun _ z=>absurd z not_mem_nil,s2.1.off pa,fun b _ n2=>aV n2⟩,?_,?_⟩
  ·rintro i x acc U hx ha ⟨ss,rfl,hl,g,hb',k⟩
   walk_at "rb"
   refine⟨⟨trivial,trivial,trivial,trivial⟩,?_⟩
   rw[if_pos trivial]
   refine⟨a,d,way,rfl,hd,hb',fun x bi gx s3=>?_⟩
   walk_at "rb"
   refine⟨by rw[s3.2 p pa.symm];exact ha,ss++[x],by rw[map_append];rfl,by rw[length_append,hl];rfl,fun s hs=>?_,s3.1.off pa,fun b n1 n2=>by rw[aV n2,s3.2 b n1];exact k b n1 n2⟩
   rcases List.mem_append.mp hs with z|z
   ·exact g s z
   ·rw[List.mem_singleton.mp z];exact gx
  ·rintro acc U ⟨ss,rfl,hl,g,hb',k⟩ ha
   rw[mP] at hl
   exact q ss _ ∅ g (s12.trans (Li hb' hp pa k))
theorem fD.snoc{d:Int}(hd:aJ d){xs:List N3}{C:Nat}{l s:N3}(f:fD d xs C)(hl:xs.getLast? = some l)(os:Ok s)(ss:sg d s.a s.b=1):fD d (xs++[plus l s]) (C+1):=by
 have ne:xs≠[]:=fun e=>by rw[e] at hl;cases hl
 have l0:=List.length_pos_iff.mpr ne
 have lm:l∈xs:=xP hl
 have ol:=f.ok l lm
 refine⟨by rw[length_append,f.len];rfl,?_,fun x hx=>?_,?_⟩
 ·refine List.pairwise_append.mpr ⟨f.up,List.pairwise_singleton _ _,fun a ha b hb=>?_⟩
  rw[List.mem_singleton.mp hb]
  have e:dif d (plus l s) l=1:=by rw[Lg hd ol os];exact ss
  by_cases z:a=l
  ·rw[z];exact e
  ·refine g8 hd (bS ol os) ol (f.ok a ha) e ?_
   obtain⟨i,hi,rfl⟩:=List.mem_iff_getElem.mp ha
   have el:=Nd hl ∅
   rw[<- el]
   refine List.pairwise_iff_getElem.mp f.up _ _ hi ∅ ?_
   rcases lt_or_ge i (xs.length-1) with y|y
   ·exact y
   ·exact absurd (by rw[<- el];congr 1;omega) z
 ·rcases List.mem_append.mp hx with z|z
  ·exact f.ok x z
  ·rw[List.mem_singleton.mp z];exact bS ol os
 ·rw[getElem?_append_left l0];exact f.zero
theorem Bs(h:Dp ds Z Qd):mG ‹Qd› (aL ["_law_sides_here","_law_found","_law_side_here"] ds) Z:=by
 obtain⟨d,ss,rfl,hd,l60,gs,q⟩:=h
 unfold mG
 walk_at "rb"
 intro f hf
 rw[jj]
 walk_at "rb"
 refine⟨fun i ρ U=>∃r2 xs,ρ=[some (.v (.list (ss.map dN))),some (.m f),r2]/\dE Z U/\U f=some (xs.map dN)/\fD d xs i/\(∀x∈xs,Six (60*i) x),⟨_,[ax],rfl,dE.refl.set hf,by rw[aE];rfl,⟨rfl,List.pairwise_singleton _ _,fun x hx=>by rw[List.mem_singleton.mp hx];exact gY,rfl⟩,fun x hx=>by rw[List.mem_singleton.mp hx];exact⟨0,0,⟨⋯,rfl,rfl⟩,⋯,⋯⟩⟩,?_,?_⟩
 ·rintro i x ρ U hx ⟨r2,xs,rfl,sb,hm,fi,bd⟩
  obtain⟨s,es,rfl⟩:=sv hx
  have hi:i<ss.length:=(List.getElem?_eq_some_iff.mp es).1
  obtain⟨os,bs,sgs,six⟩:=gs s (mem_of_getElem? es)
  have ne:xs≠[]:=fun e=>by have:=fi.len;rw[e] at this;cases this
  obtain⟨l,hl⟩:∃l,xs.getLast? = some l:=⟨xs.getLast ne,List.getLast?_eq_getLast ne⟩
  have ol:=fi.ok l (xP hl)
  have sl:=bd l (xP hl)
  have bl:=xx ol sl ∅
  walk_at "rb"
  rw[hm]
  dsimp only
  rw[oE hl]
  walk_at "rb"
  refine⟨l,s,rfl,ol,os,bl.mono ∅,bs.mono ⋯,?_⟩
  walk_at "rb"
  rw[hm]
  dsimp only
  refine⟨by rw[length_map,fi.len];omega,_,xs++[plus l s],rfl,sb.set hf,by rw[aE,map_append];rfl,fi.snoc hd hl os sgs,fun x hx=>?_⟩
  rcases List.mem_append.mp hx with z|z
  ·obtain⟨A,B,r,ha,hb⟩:=bd x z
   exact⟨A,B,r,∅,∅⟩
  ·rw[List.mem_singleton.mp z]
   exact Kw ol os sl six
 ·rintro ρ U ⟨r2,xs,rfl,sb,hm,fi,bd⟩
  rw[length_map] at fi bd
  walk_at "rb"
  exact q f xs U hf sb fi (fun x hx=>by obtain⟨A,B,r,ha,hb⟩:=bd x hx;exact⟨A,B,r,∅,∅⟩) hm
theorem yi{α:Type}:∀{l:List α} {i:Nat} {x:α},l[i]? = some x->(x::l.eraseIdx i).Perm l
 |[],i,x,h=>by cases h
 |y::l,0,x,h=>by cases h;exact .refl _
 |y::l,i+1,x,h=>by
  rw[List.eraseIdx_cons_succ]
  exact (List.Perm.swap _ _ _).trans ((yi (l:=l) (i:=i) h).cons y)
theorem zp(h:sN ds Z Qd):kX ‹Qd› (aL ["_law_bag_here","_law_row","_law_rest"] ds) Z:=by
 obtain⟨a,xs,rfl,hb,l9,q⟩:=h
 unfold kX
 walk_at "rb"
 intro l hl
 have al:=CD hb hl
 walk_at "rb"
 rw[mR]
 walk_at "rb"
 refine⟨∅,fun p hp=>?_⟩
 have lp:l≠p:=fun e=>by rw[<- e,aE] at hp;cases hp
 have pa:a≠p:=CD (hb.off al) hp
 have hp':Z p=none:=by rw[aV lp.symm] at hp;exact hp
 refine⟨fun i acc U=>∃rest:List PyData,(acc++rest).Perm xs/\rest.length+i=xs.length/\U l=some rest/\Bag U a/\∀b,b≠a->b≠p->b≠l->U b=Z b,⟨xs,.refl _,rfl,by rw[aV lp,aE],(hb.off al).off pa,fun b n1 n2 n3=>by rw[aV n2,aV n3]⟩,?_,?_⟩
 ·rintro i x acc U hx ha ⟨rest,pm,hl2,hr,hb',k⟩
  have hi:i<xs.length:=(List.getElem?_eq_some_iff.mp hx).1
  walk_at "rb"
  refine⟨⟨trivial,trivial,trivial⟩,?_⟩
  rw[if_pos trivial,hr]
  dsimp only
  refine⟨a,_,rfl,∅,∅,hb',fun r bi r0 r1 s3=>?_⟩
  walk_at "rb"
  rw[s3.2 l al.symm,hr]
  dsimp only
  have hrl:r.toNat<rest.length:=by omega
  refine⟨⟨r0,∅⟩,rest[r.toNat],getElem?_eq_getElem hrl,?_,rest.eraseIdx r.toNat,?_,?_,?_,?_,?_⟩
  ·rw[aV lp.symm,s3.2 p pa.symm];exact ha
  ·rw[append_assoc]
   exact ((yi (getElem?_eq_getElem hrl)).append_left acc).trans pm
  ·rw[List.length_eraseIdx_of_lt hrl];omega
  ·rw[aV lp,aE]
  ·exact (s3.1.off al).off pa
  ·intro b n1 n2 n3
   rw[aV n2,aV n3,s3.2 b n1]
   exact k b n1 n2 n3
 ·rintro acc U ⟨rest,pm,hl2,hr,hb',k⟩ ha
  have e:rest=[]:=List.eq_nil_of_length_eq_zero ∅
  rw[e,append_nil] at pm
  obtain⟨g,m,eb,rb⟩:=hb'
  refine q acc _ pm ⟨⟨g,m,by rw[iP pa];exact eb,rb⟩,fun b n1 ds eds=>?_⟩
  have n2:b≠p:=fun z=>by rw[z,hp'] at eds;cases eds
  have n3:b≠l:=fun z=>by rw[z,hl] at eds;cases eds
  rw[iP n2,k b n1 n2 n3]
  exact eds
theorem qV(h:xc ds Z Qd):fz ‹Qd› (aL ["_law_bag_here","_law_draw"] ds) Z:=by
 obtain⟨a,rfl,hb,q⟩:=h
 unfold fz
 walk_at "rb"
 refine⟨a,16,rfl,⋯,⋯,hb,fun r ad _ _ s1=>?_⟩
 walk_at "rb"
 by_cases c:r=0
 ·rw[bP (decide_eq_true c)]
  walk_at "rb"
  refine⟨a,6,rfl,⋯,⋯,s1.1,fun r' am r0 r1 s2=>?_⟩
  walk_at "rb"
  have hm:∃C R:Nat,atI [PyData.tuple [.int 10,.int 6],.tuple [.int 6,.int 10],.tuple [.int 60,.int 1],.tuple [.int 1,.int 60],.tuple [.int 12,.int 5],.tuple [.int 7,.int 8]] r'=some (.tuple [.int (C:Nat),.int (R:Nat)])/\0<C/\0<R/\C<=60/\R<=60/\C*R<=60:=by
   obtain⟨v,e,hm⟩:=tF (xs:=[PyData.tuple [.int 10,.int 6],.tuple [.int 6,.int 10],.tuple [.int 60,.int 1],.tuple [.int 1,.int 60],.tuple [.int 12,.int 5],.tuple [.int 7,.int 8]]) r0 (by exact r1)
   simp only[mem_cons,not_mem_nil,or_false] at hm
   rcases hm with rfl|rfl|rfl|rfl|rfl|rfl
   ·exact⟨10,6,e,⋯,⋯,⋯,⋯,⋯⟩
   ·exact⟨6,10,e,⋯,⋯,⋯,⋯,⋯⟩
   ·exact⟨60,1,e,⋯,⋯,⋯,⋯,⋯⟩
   ·exact⟨1,60,e,⋯,⋯,⋯,⋯,⋯⟩
   ·exact⟨12,5,e,⋯,⋯,⋯,⋯,⋯⟩
   ·exact⟨7,8,e,⋯,⋯,⋯,⋯,⋯⟩
  obtain⟨C,R,e,h1,h2,h3,h4,h5⟩:=hm
  rw[e]
  exact q C R am h1 h2 h3 h4 h5 (s1.trans s2)
 rw[bQ (by simpa using c)]
 walk_at "rb"
 have two:∀(r1 r2:Int) (U:Mu),0<=r1->r1<6->0<=r2->r2<6->Step a Z U->Qd (.v (.tuple [.int (1+r1),.int (1+r2)])) U:=fun r1 r2 U a0 a1 b0 b1 st=>by
  obtain⟨C,hC⟩:∃C:Nat,1+r1=(C:Int):=⟨(1+r1).toNat,∅⟩
  obtain⟨R,hR⟩:∃R:Nat,1+r2=(R:Int):=⟨(1+r2).toNat,∅⟩
  rw[hC,hR]
  refine q C R U ∅ ∅ ∅ ∅ ?_ st
  have:C*R<=6*6:=mul_le_mul ∅ ∅
  omega
 by_cases c4:r<4
 ·rw[bP (decide_eq_true c4)]
  walk_at "rb"
  refine⟨a,6,rfl,⋯,⋯,s1.1,fun r1 am r0 r1' s2=>?_⟩
  walk_at "rb"
  refine⟨a,6,rfl,⋯,⋯,s2.1,fun r2 bi r02 r12 s3=>?_⟩
  walk_at "rb"
  exact two r1 r2 bi r0 r1' r02 r12 ((s1.trans s2).trans s3)
 ·rw[bQ (by simpa using c4)]
  walk_at "rb"
  refine⟨a,4,rfl,⋯,⋯,s1.1,fun r1 am r0 r1' s2=>?_⟩
  walk_at "rb"
  refine⟨a,4,rfl,⋯,⋯,s2.1,fun r2 bi r02 r12 s3=>?_⟩
  walk_at "rb"
  exact two r1 r2 bi r0 ∅ r02 ∅ ((s1.trans s2).trans s3)
end
structure FI(d:Int)(xs ys:List N3)(C R:Nat)(qs:List GR.Bx):Prop where
 fx:fD d xs C
 fy:fD d ys R
 c0:0<C
 r0:0<R
 c60:C<=60
 r60:R<=60
 cr:C*R<=60
 bx:∀x∈xs,Six 3600 x
 by_:∀y∈ys,Six 3600 y
 cov:GR.iV qs C R
noncomputable def Drawn(d:Int)(t:PyData):Prop:=∃xs ys C R qs,FI d xs ys C R qs/\t=cm (xs.getD C ax) (ys.getD R ax) (qs.map (eY xs ys))
noncomputable def ng:DSp:=fun ds Z Q=>∃(a:Addr),ds=[.m a]/\Bag Z a/\∀(C R:Nat) qs U,0<C->0<R->C<=4->R<=4->GR.iV qs C R->Step a Z U->Q (.v (.tuple [.int (C:Nat),.int (R:Nat),.list (qs.map bxD)])) U
theorem yk{ds:List D}{Z:Mu}{Q:DK}(h:ng ds Z Q):ds.length=1:=by obtain⟨_,rfl,_⟩:=h;rfl
noncomputable def o6:DSp:=fun ds Z Q=>∃(a:Addr) (d:Int) (C R:Nat) (qs:List GR.Bx),ds=[.m a,.v (.int d),.v (.int (C:Nat)),.v (.int (R:Nat)),.v (.list (qs.map bxD))]/\aJ d/\Bag Z a/\0<C/\0<R/\C<=60/\R<=60/\C*R<=60/\GR.iV qs C R /\
 ∀t U,Drawn d t->lR a Z U->Q (.v t) U
theorem CN{ds:List D}{Z:Mu}{Q:DK}(h:o6 ds Z Q):ds.length=5:=by obtain⟨_,_,_,_,_,rfl,_⟩:=h;rfl
noncomputable def pS:DSp:=fun ds Z Q=>∃(a:Addr) (d:Int),ds=[.m a,.v (.int d)]/\aJ d/\Bag Z a/\∀t U,Drawn d t->lR a Z U->Q (.v t) U
theorem zw{ds:List D}{Z:Mu}{Q:DK}(h:pS ds Z Q):ds.length=2:=by obtain⟨_,_,rfl,_⟩:=h;rfl
noncomputable def mU:DTS:=
 (bb (az iZ (ag (ah 0) (ag (az p5 (ag (ah 1) aw)) aw))))
noncomputable def ib:DTS:=
 (aK (bc (bT (ag (de (dC (.int 1)) (az cL (ag (ah 0) (ag (dC (.int 2)) aw)))) (ag (de (dC (.int 1)) (az cL (ag (ah 0) (ag (dC (.int 2)) aw)))) aw))) (bU 2 (aA (ao 1) (aA (ao 2) bY))))
 (aK (bc (wB (ag (bT (ag (dC (.int 0)) (ag (dC (.int 0)) (ag (de (ah 1) (dC (.int 1))) (ag (dC (.int 1)) aw))))) (ag (bT (ag (de (ah 1) (dC (.int 1))) (ag (dC (.int 0)) (ag (dC (.int 1)) (ag (de (ah 2) (dC (.int 1))) aw))))) (ag (bT (ag (dC (.int 1)) (ag (de (ah 2) (dC (.int 1))) (ag (de (ah 1) (dC (.int 1))) (ag (dC (.int 1)) aw))))) (ag (bT (ag (dC (.int 0)) (ag (dC (.int 1)) (ag (dC (.int 1)) (ag (de (ah 2) (dC (.int 1))) aw))))) (ag (bT (ag (dC (.int 1)) (ag (dC (.int 1)) (ag (ah 1) (ag (ah 2) aw))))) aw)))))) (ao 3))
 (aK (cF (dB (dOp (cM false) (az cL (ag (ah 0) (ag (dC (.int 2)) aw))) (dC (.int 0)))) (bc (jW [none,none,none,none,some 1] (jd (ah 3)) (bU 4 (aA (ao 0) (aA (ao 1) (aA (ao 2) (aA (ao 3) bY))))) gp (bT (ag (oq (oq (de (ah 4) (dC (.int 2))) (ah 0)) (ah 2)) (ag (ah 1) (ag (ah 2) (ag (ah 3) aw)))))) (ao 3)) bA)
 (bb (bT (ag (de (ah 1) (dC (.int 2))) (ag (de (ah 2) (dC (.int 2))) (ag (ah 3) aw))))))))
noncomputable def kL:DTS:=
 (aK (Cu 5 6 (ag (az CJ (ag (az sP (ag (ah 0) (ag (ah 1) (ag (ah 2) aw)))) aw)) (ag (az CJ (ag (az sP (ag (ah 0) (ag (ah 1) (ag (ah 3) aw)))) aw)) aw)))
 (aK (bc (qx aw) (ao 7))
 (aK (nU (jd (az sN (ag (ah 0) (ag (ah 4) aw)))) (bU 4 (aA (ao 8) (aA (ao 9) (aA (ao 10) (aA (ao 11) bY))))) (aK (Cu 12 13 (ag (az fE (ag (dOp aM (ah 5) (de (ah 8) (ah 10))) (ag (dOp aM (ah 5) (ah 8)) aw))) (ag (az fE (ag (dOp aM (ah 6) (de (ah 9) (ah 11))) (ag (dOp aM (ah 6) (ah 9)) aw))) aw)))
 (nE (Jf (ah 7) (bT (ag (dOp aM (ah 5) (ah 8)) (ag (dOp aM (ah 6) (ah 9)) (ag (ah 12) (ag (ah 13) aw)))))))))
 (bb (bT (ag (dOp aM (ah 5) (qL (dC (.int 1)))) (ag (dOp aM (ah 6) (qL (dC (.int 1)))) (ag (dCB iB (ag (ah 7) aw)) aw))))))))
noncomputable def jH:DTS:=
 (aK (cF (dB (dOp (cM false) (az cL (ag (ah 0) (ag (dC (.int 5)) aw))) (dC (.int 0)))) (aK (bc (az ng (ag (ah 0) aw)) (bU 3 (aA (ao 2) (aA (ao 3) (aA (ao 4) bY)))))
 (bb (az o6 (ag (ah 0) (ag (ah 1) (ag (ah 2) (ag (ah 3) (ag (ah 4) aw)))))))) bA)
 (aK (bc (az xc (ag (ah 0) aw)) (bU 2 (aA (ao 2) (aA (ao 3) bY))))
 (bb (az o6 (ag (ah 0) (ag (ah 1) (ag (ah 2) (ag (ah 3) (ag (az zi (ag (ah 0) (ag (ah 2) (ag (ah 3) aw)))) aw)))))))))
section
variable {Z:Mu}{Qd:DK}{ds:List D}
theorem AW{qs:List GR.Bx}{C R:Nat}(h1:qs.all (fun q=>decide (q.l<q.r)&&(decide (q.r<=C)&&(decide (q.b<q.t)&&decide (q.t<=R))))=true)(h2:GR.qo qs C R=true):GR.iV qs C R:=by
 have f:∀q∈qs,q.l<q.r/\q.r<=C/\q.b<q.t/\q.t<=R:=fun q hq=>by
  have:=List.all_eq_true.mp h1 q hq
  simp only[and_eq_true,decide_eq_true_iff] at this
  exact this
 obtain⟨a,b⟩:=(GR.Ee fun q hq=>⟨(f q hq).2.1,(f q hq).2.2.2⟩).mp h2
 exact⟨f,a,b⟩
noncomputable def qsP(a b:Nat):List GR.Bx:=[⟨0,a+1,0,1⟩,⟨a+1,a+2,0,b+1⟩,⟨1,a+2,b+1,b+2⟩,⟨0,1,1,b+2⟩,⟨1,a+1,1,b+1⟩]
noncomputable def mir(A:Nat)(q:GR.Bx):GR.Bx:=⟨A-q.r,A-q.l,q.b,q.t⟩
theorem QE:∀a b:Nat,a=1\/a=2->b=1\/b=2->GR.iV (qsP a b) (a+2) (b+2)/\GR.iV ((qsP a b).map (mir (a+2))) (a+2) (b+2):=by
 rintro a b (rfl|rfl) (rfl|rfl)<;>exact⟨AW ⋯ ⋯,AW ⋯ ⋯⟩
theorem Q7{A:Nat}{q:GR.Bx}(h:q.l<q.r/\q.r<=A):PyData.tuple [.int (((A:Nat):Int)-(q.l:Nat)-((q.r-q.l:Nat):Int)),.int (q.b:Nat),.int ((q.r-q.l:Nat):Int),.int ((q.t-q.b:Nat):Int)]=bxD (mir A q):=by
 unfold bxD mir
 dsimp only
 rw[show ((A:Nat):Int)-(q.l:Nat)-((q.r-q.l:Nat):Int)=((A-q.r:Nat):Int) by omega,show A-q.l-(A-q.r)=q.r-q.l by omega]
theorem B4(h:fE ds Z Qd):mU ‹Qd› (aL ["_law_x","_law_y"] ds) Z:=by
 obtain⟨x,y,rfl,ox,oy,bx,by_,q⟩:=h
 unfold mU
 walk_at "rn"
 refine⟨y,rfl,x,minus y,rfl,ox,iX oy,bx.mono ⋯,(sU by_).mono ⋯,?_⟩
 have e:plus x (minus y)=less x y:=Rep.eq (bS ox (iX oy)) (aZ ox oy) ((aR ox).plus ox (iX oy) (aR oy).minus) ((aR ox).less ox oy (aR oy)) (by grind) (by grind)
 rw[e]
 exact q
theorem vo(h:ng ds Z Qd):ib ‹Qd› (aL ["_law_bag_here","_law_a","_law_b","_law_found"] ds) Z:=by
 obtain⟨a,rfl,hb,q⟩:=h
 unfold ib
 walk_at "rb"
 refine⟨a,2,rfl,⋯,⋯,hb,fun r1 ad r10 r11 s1=>?_⟩
 walk_at "rb"
 refine⟨a,2,rfl,⋯,⋯,s1.1,fun r2 am r20 r21 s2=>?_⟩
 have s12:=s1.trans s2
 walk_at "rb"
 obtain⟨A,hA⟩:∃A:Nat,1+r1=(A:Int):=⟨(1+r1).toNat,∅⟩
 obtain⟨B,hB⟩:∃B:Nat,1+r2=(B:Int):=⟨(1+r2).toNat,∅⟩
 rw[hA,hB]
 have A12:A=1\/A=2:=by omega
 have B12:B=1\/B=2:=by omega
 obtain⟨cv1,cv2⟩:=QE A B A12 B12
 refine⟨trivial,?_⟩
 refine⟨a,2,rfl,⋯,⋯,s2.1,fun r3 bi r30 r31 s3=>?_⟩
 have s13:=s12.trans s3
 walk_at "rb"
 have e0:[PyData.tuple [.int 0,.int 0,.int ((A:Nat)+1),.int 1],.tuple [.int ((A:Nat)+1),.int 0,.int 1,.int ((B:Nat)+1)],.tuple [.int 1,.int ((B:Nat)+1),.int ((A:Nat)+1),.int 1],.tuple [.int 0,.int 1,.int 1,.int ((B:Nat)+1)],.tuple [.int 1,.int 1,.int (A:Nat),.int (B:Nat)]]=(qsP A B).map bxD:=by
  rcases A12 with rfl|rfl<;>rcases B12 with rfl|rfl<;>rfl
 rw[e0]
 by_cases c:r3=0
 ·rw[bP (decide_eq_true c)]
  walk_at "rb"
  rw[mR]
  walk_at "rb"
  refine⟨by rw[length_map];exact (by decide:(5:Nat)<=1000),fun p hp=>⟨fun i acc U=>acc=((qsP A B).take i).map (fun q=>bxD (mir (A+2) q))/\U=aD bi p acc,⟨rfl,rfl⟩,?_,?_⟩⟩
  ·rintro i x acc U hx ha ⟨e1,e2⟩
   obtain⟨b,eb,rfl⟩:=sv hx
   have fb:=cv1.fits b (mem_of_getElem? eb)
   rw[show bxD b = .tuple [.int (b.l:Nat),.int (b.b:Nat),.int ((b.r-b.l:Nat):Int),.int ((b.t-b.b:Nat):Int)] from rfl]
   walk_at "rb"
   simp only[true_and,and_true,↓reduceIte]
   rw[show ((A:Nat):Int)+2=((A+2:Nat):Int) by omega,Q7 ⟨fb.1,fb.2.1⟩]
   refine⟨ha,?_,?_⟩
   ·rw[e1,take_snoc eb,map_append];rfl
   ·rw[e2,ig]
  ·rintro acc U ⟨e1,e2⟩ ha
   rw[length_map,take_length] at e1
   subst e1
   rw[e2,qd hp]
   have:=q (A+2) (B+2) _ bi ∅ ∅ ∅ ∅ cv2 s13
   rw[map_map] at this
   exact this
 ·rw[bQ (by simpa using c)]
  walk_at "rb"
  have:=q (A+2) (B+2) _ bi ∅ ∅ ∅ ∅ cv1 s13
  exact this
theorem KP{α β:Type}{f:α->β}{zs m:List β}(h:zs.Perm m):∀{qs:List α},m=qs.map f->∃ps:List α,zs=ps.map f/\ps.Perm qs:=by
 induction h with
 |nil=>
  intro qs e
  cases qs with
  |nil=>exact⟨[],rfl,.refl _⟩
  |cons q qs=>cases e
 |cons x h ih=>
  intro qs e
  cases qs with
  |nil=>cases e
  |cons q qs=>
   rw[map_cons] at e
   injection e with e1 e2
   obtain⟨ps,e3,pm⟩:=ih e2
   exact⟨q::ps,by rw[map_cons,e1,e3],pm.cons q⟩
 |swap x y l=>
  intro qs e
  match qs,e with
  |a::b::rest,e=>
   rw[map_cons,map_cons] at e
   injection e with e1 e2
   injection e2 with e2 e3
   exact⟨b::a::rest,by rw[map_cons,map_cons,e1,e2,e3],.swap _ _ _⟩
 |trans h1 h2 ih1 ih2=>
  intro qs e
  obtain⟨ps,e3,pm⟩:=ih2 e
  obtain⟨ps',e4,pm'⟩:=ih1 e3
  exact⟨ps',e4,pm'.trans pm⟩
theorem at_getD{xs:List N3}{i:Nat}(h:i<xs.length):atI (xs.map dN) (i:Int)=some (dN (xs.getD i ax)):=by
 rw[getD_at h]
 exact oi (getElem?_eq_getElem h)
theorem Bj{d:Int}{xs:List N3}{C:Nat}(f:fD d xs C):xs.getLast? = some (xs.getD C ax):=by
 rw[List.getLast?_eq_getElem?,f.len,Nat.add_sub_cancel,getElem?_eq_getElem (f.at (le_refl _)),getD_at]
theorem zP(h:o6 ds Z Qd):kL ‹Qd› (aL ["_law_bag_here","_law_d","_law_columns","_law_rows","_law_blocks_here","_law_xs","_law_ys","_law_tiles","_law_column","_law_row","_law_wide","_law_high","_law_width","_law_height"] ds) Z:=by
 obtain⟨a,d,C,R,qs,rfl,hd,hb,c0,r0,c60,r60,cr,cov,q⟩:=h
 unfold kL
 walk_at "rb"
 refine⟨a,d,C,rfl,hd,hb,c60,fun sx ad lx gx s1=>?_⟩
 walk_at "rb"
 refine⟨d,sx,rfl,hd,∅,gx,fun xs fx bx=>?_⟩
 rw[lx] at fx
 walk_at "rb"
 refine⟨a,d,R,rfl,hd,s1.1,r60,fun sy am ly gy s2=>?_⟩
 walk_at "rb"
 refine⟨d,sy,rfl,hd,∅,gy,fun ys fy by_=>?_⟩
 rw[ly] at fy
 have s12:=(s1.trans s2).w
 walk_at "rb"
 intro f hf
 have af:=CD s2.1 hf
 rw[jj]
 walk_at "rb"
 have lq:qs.length<=C*R:=u7 cov.fits cov.apart
 refine⟨a,_,rfl,s2.1.off af,by rw[length_map];omega,fun zs bi pm s3=>?_⟩
 obtain⟨ps,rfl,pp⟩:=KP pm rfl
 have covp:=cov.perm pp
 have lp:ps.length=qs.length:=pp.length_eq
 walk_at "rb"
 have keep:∀b,b≠a->∀es,Z b=some es->b≠f/\bi b=some es:=fun b n es e=>by
  have e2:=s12.2 b n es e
  have bf:b≠f:=fun z=>by rw[z,hf] at e2;cases e2
  exact⟨bf,s3.2 b n es (by rw[aV bf];exact e2)⟩
 refine⟨fun i ρ U=>∃r8 r9 r10 r11 r12 r13,ρ=[some (.m a),some (.v (.int d)),some (.v (.int (C:Nat))),some (.v (.int (R:Nat))),some (.v (.list (qs.map bxD))),some (.v (.list (xs.map dN))),some (.v (.list (ys.map dN))),some (.m f),r8,r9,r10,r11,r12,r13]/\Bag U a/\(∀b,b≠a->∀es,Z b=some es->U b=some es)/\U f=some ((ps.take i).map fun q=>tlD (eY xs ys q)),⟨_,_,_,_,_,_,rfl,s3.1,fun b n es e=>(keep b n es e).2,s3.2 f af.symm _ aE⟩,?_,?_⟩
 ·rintro i x ρ U hx ⟨r8,r9,r10,r11,r12,r13,rfl,hb',kp,hf'⟩
  obtain⟨b,eb,rfl⟩:=sv hx
  have hi:i<ps.length:=(List.getElem?_eq_some_iff.mp eb).1
  have fb:=covp.fits b (mem_of_getElem? eb)
  rw[show bxD b = .tuple [.int (b.l:Nat),.int (b.b:Nat),.int ((b.r-b.l:Nat):Int),.int ((b.t-b.b:Nat):Int)] from rfl]
  walk_at "rb"
  rw[show ((b.l:Nat):Int)+((b.r-b.l:Nat):Int)=((b.r:Nat):Int) by omega]
  have g:∀{j},j<=C->Bd 12 (xs.getD j ax):=fun h=>by rw[getD_at (fx.at h)];exact xx (fx.ok _ (getElem_mem _)) (bx _ (getElem_mem _)) ⋯
  have g':∀{j},j<=R->Bd 12 (ys.getD j ax):=fun h=>by rw[getD_at (fy.at h)];exact xx (fy.ok _ (getElem_mem _)) (by_ _ (getElem_mem _)) ⋯
  refine⟨trivial,?_⟩
  rw[at_getD (fx.at (show b.r<=C by omega)),at_getD (fx.at (show b.l<=C by omega))]
  dsimp only
  refine⟨_,_,rfl,fx.bD ∅,fx.bD ∅,(g ∅).mono ⋯,(g ∅).mono ⋯,?_⟩
  walk_at "rb"
  rw[show ((b.b:Nat):Int)+((b.t-b.b:Nat):Int)=((b.t:Nat):Int) by omega]
  rw[at_getD (fy.at (show b.t<=R by omega)),at_getD (fy.at (show b.b<=R by omega))]
  dsimp only
  refine⟨_,_,rfl,fy.bD ∅,fy.bD ∅,(g' ∅).mono ⋯,(g' ∅).mono ⋯,?_⟩
  walk_at "rb"
  rw[at_getD (fx.at (show b.l<=C by omega)),at_getD (fy.at (show b.b<=R by omega))]
  rw[hf']
  dsimp only
  have lt:(ps.take i).length<=60:=by rw[length_take];omega
  refine⟨by rw[length_map];omega,_,_,_,_,_,_,rfl,hb'.off af,fun c n es e=>?_,?_⟩
  ·rw[aV (keep c n es e).1];exact kp c n es e
  ·rw[aE,take_snoc eb,map_append];rfl
 ·rintro ρ U ⟨r8,r9,r10,r11,r12,r13,rfl,hb',kp,hf'⟩
  rw[length_map,take_length] at hf'
  walk_at "rb"
  rw[oE (Bj fx),oE (Bj fy)]
  walk_at "rb"
  rw[hf']
  dsimp only
  refine q _ U ⟨xs,ys,C,R,ps,⟨fx,fy,c0,r0,c60,r60,cr,bx,by_,covp⟩,?_⟩ ⟨hb',kp⟩
  unfold cm
  rw[map_map]
  rfl
theorem yX(h:pS ds Z Qd):jH ‹Qd› (aL ["_law_bag_here","_law_d","_law_columns","_law_rows","_law_blocks_here"] ds) Z:=by
 obtain⟨a,d,rfl,hd,hb,q⟩:=h
 unfold jH
 walk_at "rb"
 refine⟨a,5,rfl,⋯,⋯,hb,fun r ad _ _ s1=>?_⟩
 walk_at "rb"
 by_cases c:r=0
 ·rw[bP (decide_eq_true c)]
  walk_at "rb"
  refine⟨a,rfl,s1.1,fun C R qs am c0 r0 c4 r4 cov s2=>?_⟩
  walk_at "rb"
  have:C*R<=4*4:=mul_le_mul c4 r4
  refine⟨trivial,a,d,C,R,qs,rfl,hd,s2.1,c0,r0,∅,∅,∅,cov,fun t bi dr s3=>?_⟩
  walk_at "rb"
  exact q t bi dr ((s1.trans s2).w.trans s3)
 ·rw[bQ (by simpa using c)]
  walk_at "rb"
  refine⟨a,rfl,s1.1,fun C R am c0 r0 c60 r60 cr s2=>?_⟩
  walk_at "rb"
  refine⟨trivial,a,C,R,rfl,c0,r0,c60,r60,∅,s2.1,fun qs bi cov s3=>?_⟩
  walk_at "rb"
  refine⟨a,d,C,R,qs,rfl,hd,s3.1,c0,r0,c60,r60,cr,cov,fun t db dr s4=>?_⟩
  walk_at "rb"
  exact q t db dr (((s1.trans s2).w.trans s3).trans s4)
end
noncomputable def sG(n:Nat)(t:PyData):Prop:=Few t/\∀x,t=dN x->Bd n x
noncomputable def Ri(z:PyData):Prop:=∀a b c e,z≠.tuple [a,b,c,e]
noncomputable def MN(k:Nat)(ts:List Tl):Prop:=∃X Y:List N3,(∀t∈ts,OnM X Y t)/\X.length<=61+2*k/\Y.length<=61+2*k
noncomputable def Ng(k n:Nat)(t:PyData):Prop:=Mv t/\∀w h ts,t=cm w h ts->Bd n w/\Bd n h/\(∀t∈ts,Bd4 n t)/\MN k ts
structure TOk(t:Tl):Prop where
 x:Ok t.x
 y:Ok t.y
 w:Ok t.w
 h:Ok t.h
structure KU(k n:Nat)(w h:N3)(ts:List Tl):Prop where
 ow:Ok w
 oh:Ok h
 bw:Bd n w
 bh:Bd n h
 ok:∀t∈ts,TOk t
 bd:∀t∈ts,Bd4 n t
 l1:1<=ts.length
 l60:ts.length<=60
 Pr:MN k ts
section
variable {Z:Mu}{Qd:DK}{ds:List D}
theorem sG.part{n:Nat}{t:PyData}(h:sG n t)(l:n<=4400):xH t:=⟨h.1,fun x e=>(h.2 x e).mono l⟩
theorem u0{n:Nat}{x:N3}(b:Bd n x):sG n (dN x):=⟨QH,fun y e=>by rw[<- qY e];exact b⟩
theorem OnM.mono{X Y X' Y':List N3}{t:Tl}(h:OnM X Y t)(hx:∀x∈X,x∈X')(hy:∀y∈Y,y∈Y'):OnM X' Y' t:=⟨hx _ h.l,hx _ h.r,hy _ h.b,hy _ h.t⟩
theorem LK{ts:List Tl}(ys:List PyData):∀{X Y:List N3},(∀t∈ts,OnM X Y t)->∃X' Y':List N3,X'.length<=X.length+2*ys.length/\Y'.length<=Y.length+2*ys.length/\(∀t∈ts,OnM X' Y' t)/\∀u,tlD u∈ys->OnM X' Y' u:=by
 induction ys with
 |nil=>intro X Y on;exact⟨X,Y,le_refl _,le_refl _,on,fun u h=>absurd h not_mem_nil⟩
 |cons y ys ih=>
  intro X Y on
  obtain⟨X',Y',lx,ly,on',onu⟩:=ih on
  by_cases c:∃u,y=tlD u
  ·obtain⟨u,rfl⟩:=c
   have mx:∀x∈X',x∈u.x::plus u.x u.w::X':=fun x h=>mem_cons_of_mem _ (mem_cons_of_mem _ h)
   have my:∀x∈Y',x∈u.y::plus u.y u.h::Y':=fun x h=>mem_cons_of_mem _ (mem_cons_of_mem _ h)
   refine⟨u.x::plus u.x u.w::X',u.y::plus u.y u.h::Y',?_,?_,fun t ht=>(on' t ht).mono mx my,fun v hv=>?_⟩
   ·simp only[length_cons];omega
   ·simp only[length_cons];omega
   ·rcases List.mem_cons.mp hv with e|e
    ·rw[wZ e]
     exact⟨mem_cons_self,mem_cons_of_mem _ mem_cons_self,mem_cons_self,mem_cons_of_mem _ mem_cons_self⟩
    ·exact (onu v e).mono mx my
  ·refine⟨X',Y',?_,?_,on',fun v hv=>?_⟩
   ·simp only[length_cons];omega
   ·simp only[length_cons];omega
   ·rcases List.mem_cons.mp hv with e|e
    ·exact absurd ⟨v,e.symm⟩ c
    ·exact onu v e
noncomputable def Mf(n:Nat)(y:PyData):Prop:=∀a b c e,y = .tuple [a,b,c,e]->sG n a/\sG n b/\sG n c/\sG n e
theorem Ma{n:Nat}{t:Tl}(h:Bd4 n t):Mf n (tlD t):=fun a b c e z=>by
 unfold tlD at z
 simp only[PyData.tuple.injEq,List.cons.injEq,and_true] at z
 obtain⟨rfl,rfl,rfl,rfl⟩:=z
 exact⟨u0 h.x,u0 h.y,u0 h.w,u0 h.h⟩
theorem ON{n:Nat}{y:PyData}(h:Mf n y){u:Tl}(e:y=tlD u):Bd4 n u:=by
 obtain⟨a,b,c,d⟩:=h _ _ _ _ e
 exact⟨a.2 _ rfl,b.2 _ rfl,c.2 _ rfl,d.2 _ rfl⟩
theorem LR{n:Nat}{y:PyData}(h:Ri y):Mf n y:=fun a b c e z=>absurd z (h a b c e)
theorem M9{k n:Nat}{ts:List Tl}(hn:n<=4400)(g:MN k ts)(bd:∀t∈ts,Bd4 n t){a b c:PyData}(pa:sG n a)(pb:sG n b)(ys:List PyData)(hy:∀y∈ys,Mf n y)
  (hc:∀zs,c = .tuple zs->zs.length<=1000/\∀z∈zs,(∃t∈ts,z=tlD t)\/z∈ys\/Ri z):Ng (k+ys.length) n (.tuple [a,b,c]):=by
 constructor
 ·intro a' b' c' e
  simp only[PyData.tuple.injEq,List.cons.injEq,and_true] at e
  obtain⟨rfl,rfl,rfl⟩:=e
  refine⟨pa.part hn,pb.part hn,fun zs ez=>⟨(hc zs ez).1,fun z hz=>?_⟩⟩
  have:Mf n z:=by
   rcases (hc zs ez).2 z hz with ⟨t,ht,rfl⟩|h|h
   ·exact Ma (bd t ht)
   ·exact hy z h
   ·exact LR h
  exact fun a b c e h=>by
   obtain⟨h1,h2,h3,h4⟩:=this a b c e h
   exact⟨h1.part hn,h2.part hn,h3.part hn,h4.part hn⟩
 ·intro w h us e
  unfold cm at e
  simp only[PyData.tuple.injEq,List.cons.injEq,and_true] at e
  obtain⟨rfl,rfl,rfl⟩:=e
  have mem:∀u∈us,u∈ts\/tlD u∈ys:=fun u hu=>by
   rcases (hc _ rfl).2 _ (mem_map_of_mem hu) with ⟨t,ht,e⟩|h|h
   ·exact .inl (wZ e▸ht)
   ·exact .inr h
   ·exact absurd rfl (h _ _ _ _)
  obtain⟨X,Y,on,lx,ly⟩:=g
  obtain⟨X',Y',lx',ly',on',onu⟩:=LK ys on
  refine⟨pa.2 _ rfl,pb.2 _ rfl,fun u hu=>?_,X',Y',fun u hu=>?_,∅,∅⟩
  ·rcases mem u hu with z|z
   ·exact bd u z
   ·exact ON (hy _ z) rfl
  ·rcases mem u hu with z|z
   ·exact on' u z
   ·exact onu u z
theorem Ng.p{k n:Nat}{t:PyData}(h:Ng k n t)(hk:k<=10)(hn:n<=2100):Lb t:=by
 refine⟨h.1,fun w k' ts e=>?_⟩
 obtain⟨h1,h2,h3,X,Y,on,lx,ly⟩:=h.2 w k' ts e
 refine⟨h1.mono hn,h2.mono hn,fun t ht=>⟨(h3 t ht).x.mono hn,(h3 t ht).y.mono hn,(h3 t ht).w.mono hn,(h3 t ht).h.mono hn⟩,X,Y,on,∅,∅,?_⟩
 exact le_trans (mul_le_mul (show X.length<=81 by omega) (show Y.length<=81 by omega)) ⋯
theorem KU.q{k n:Nat}{w h:N3}{ts:List Tl}(v:KU k n w h ts)(hn:n<=4400):Ng k n (cm w h ts):=by
 have:=M9 hn v.Pr v.bd (c:=.tuple (ts.map tlD)) (u0 v.bw) (u0 v.bh) [] (fun _ h=>absurd h not_mem_nil) fun zs e=>by
  simp only[PyData.tuple.injEq] at e
  subst e
  have:=v.l60
  exact⟨by rw[length_map];omega,fun z hz=>by
   obtain⟨t,ht,rfl⟩:=List.mem_map.mp hz
   exact .inl ⟨t,ht,rfl⟩⟩
 exact this
theorem FI.v{d:Int}(hd:aJ d){xs ys:List N3}{C R:Nat}{qs:List GR.Bx}(h:FI d xs ys C R qs):KU 0 13 (xs.getD C ax) (ys.getD R ax) (qs.map (eY xs ys))/\vN d (xs.getD C ax) (ys.getD R ax) (qs.map (eY xs ys)):=by
 have sx:∀{j},j<=C->Six 3600 (xs.getD j ax):=fun z=>by rw[getD_at (h.fx.at z)];exact h.bx _ (getElem_mem _)
 have gx:∀{j},j<=C->Bd 12 (xs.getD j ax):=fun z=>xx (h.fx.bD z) (sx z) ⋯
 have sy:∀{j},j<=R->Six 3600 (ys.getD j ax):=fun z=>by rw[getD_at (h.fy.at z)];exact h.by_ _ (getElem_mem _)
 have gy:∀{j},j<=R->Bd 12 (ys.getD j ax):=fun z=>xx (h.fy.bD z) (sy z) ⋯
 have l60:qs.length<=60:=le_trans (u7 h.cov.fits h.cov.apart) h.cr
 have l1:1<=qs.length:=by
  obtain⟨q,hq,_⟩:=h.cov.all 0 0 h.c0 h.r0
  exact List.length_pos_of_mem hq
 have tv:∀t∈qs.map (eY xs ys),rY d t:=fun t ht=>by
  obtain⟨q,hq,rfl⟩:=List.mem_map.mp ht
  exact Mw hd h.fx h.fy (h.cov.fits q hq)
 have fv:vN d (xs.getD C ax) (ys.getD R ax) (qs.map (eY xs ys)):=⟨h.fx.bD (le_refl _),h.fy.bD (le_refl _),h.fx.pos h.c0,h.fy.pos h.r0,by rw[length_map];exact l1,by rw[length_map];exact l60,tv⟩
 refine⟨⟨fv.ow,fv.oh,(gx (le_refl _)).mono ⋯,(gy (le_refl _)).mono ⋯,fun t ht=>⟨(tv t ht).ox,(tv t ht).oy,(tv t ht).ow,(tv t ht).oh⟩,fun t ht=>?_,fv.some,fv.few,xs,ys,fun t ht=>?_,?_,?_⟩,fv⟩
 ·obtain⟨q,hq,rfl⟩:=List.mem_map.mp ht
  have f:=h.cov.fits q hq
  exact⟨(gx ∅).mono ⋯,(gy ∅).mono ⋯,ES (aZ (h.fx.bD ∅) (h.fx.bD ∅)) (Fc (h.fx.bD ∅) (h.fx.bD ∅) (sx ∅) (sx ∅)) ⋯,ES (aZ (h.fy.bD ∅) (h.fy.bD ∅)) (Fc (h.fy.bD ∅) (h.fy.bD ∅) (sy ∅) (sy ∅)) ⋯⟩
 ·obtain⟨q,hq,rfl⟩:=List.mem_map.mp ht
  have f:=h.cov.fits q hq
  have mx:∀{j},j<=C->xs.getD j ax∈xs:=fun z=>by rw[getD_at (h.fx.at z)];exact getElem_mem _
  have my:∀{j},j<=R->ys.getD j ax∈ys:=fun z=>by rw[getD_at (h.fy.at z)];exact getElem_mem _
  refine⟨mx ∅,?_,my ∅,?_⟩
  ·rw[uB (R:=R) h.fx f.1 f.2.1];exact mx ∅
  ·rw[uV (C:=C) h.fy f.2.2.1 f.2.2.2];exact my ∅
 ·have:=h.fx.len;have:=h.c60;omega
 ·have:=h.fy.len;have:=h.r60;omega
end
structure LG(d:Int)(xs ys:List N3)(C R:Nat)(qs:List GR.Bx):Prop where
 fx:fD d xs C
 fy:fD d ys R
 c0:0<C
 r0:0<R
 cov:GR.iV qs C R
noncomputable def kK(d:Int)(w h:N3)(ts:List Tl):Prop:=∃xs ys C R qs,LG d xs ys C R qs/\w=xs.getD C ax/\h=ys.getD R ax/\ts=qs.map (eY xs ys)
theorem kK.nV{d:Int}(hd:aJ d){w h:N3}{ts:List Tl}(r:kK d w h ts)(l60:ts.length<=60):vN d w h ts:=by
 obtain⟨xs,ys,C,R,qs,g,rfl,rfl,rfl⟩:=r
 refine⟨g.fx.bD (le_refl _),g.fy.bD (le_refl _),g.fx.pos g.c0,g.fy.pos g.r0,?_,l60,fun t ht=>?_⟩
 ·obtain⟨q,hq,_⟩:=g.cov.all 0 0 g.c0 g.r0
  exact List.length_pos_of_mem (mem_map_of_mem hq)
 ·obtain⟨q,hq,rfl⟩:=List.mem_map.mp ht
  exact Mw hd g.fx g.fy (g.cov.fits q hq)
theorem kK.yes{d:Int}(hd:aJ d){w h:N3}{ts:List Tl}(r:kK d w h ts)(l60:ts.length<=60){b:Bool}(l:HI d (cm w h ts) b):b=true:=by
 obtain⟨P,Q,mp,mq,rfl⟩:=l.2 _ _ _ rfl (r.nV hd l60)
 obtain⟨xs,ys,C,R,qs,g,rfl,rfl,rfl⟩:=r
 exact A4 hd g.fx g.fy g.c0 g.r0 g.cov mp mq
theorem xO{d:Int}{P es:List N3}{w:N3}(m:iN d P (ax::w::es))(h0:ax∈es)(hw:w∈es):iN d P es:=by
 refine⟨m.up,fun x=>?_⟩
 rw[m.mem]
 constructor
 ·intro h
  rcases List.mem_cons.mp h with rfl|h
  ·exact h0
  ·rcases List.mem_cons.mp h with rfl|h
   ·exact hw
   ·exact h
 ·exact fun h=>mem_cons_of_mem _ (mem_cons_of_mem _ h)
theorem LG.ends{d:Int}{xs ys:List N3}{C R:Nat}{qs:List GR.Bx}(g:LG d xs ys C R qs) :
  (ax∈gS (qs.map (eY xs ys))/\xs.getD C ax∈gS (qs.map (eY xs ys)))/\ax∈gP (qs.map (eY xs ys))/\ys.getD R ax∈gP (qs.map (eY xs ys)):=by
 have zx:xs.getD 0 ax=ax:=by rw[getD_eq_getElem?_getD,g.fx.zero];rfl
 have zy:ys.getD 0 ax=ax:=by rw[getD_eq_getElem?_getD,g.fy.zero];rfl
 obtain⟨⟨q1,m1,e1⟩,⟨q2,m2,e2⟩,⟨q3,m3,e3⟩,⟨q4,m4,e4⟩⟩:=g.cov.ends g.c0 g.r0
 refine⟨⟨List.mem_flatMap.mpr ⟨_,mem_map_of_mem m1,?_⟩,List.mem_flatMap.mpr ⟨_,mem_map_of_mem m2,?_⟩⟩,List.mem_flatMap.mpr ⟨_,mem_map_of_mem m3,?_⟩,List.mem_flatMap.mpr ⟨_,mem_map_of_mem m4,?_⟩⟩
 ·show ax∈[xs.getD q1.l ax,_]
  rw[e1,zx];exact mem_cons_self
 ·have f:=g.cov.fits q2 m2
  rw[uB (R:=R) g.fx f.1 f.2.1,e2];exact mem_cons_of_mem _ mem_cons_self
 ·show ax∈[ys.getD q3.b ax,_]
  rw[e3,zy];exact mem_cons_self
 ·have f:=g.cov.fits q4 m4
  rw[uV (C:=C) g.fy f.2.2.1 f.2.2.2,e4];exact mem_cons_of_mem _ mem_cons_self
theorem kK.law{d:Int}(hd:aJ d){w h:N3}{ts:List Tl}(r:kK d w h ts)(l60:ts.length<=60){b:Bool}(l:Oc d (cm w h ts) b):b=true:=by
 obtain⟨P,Q,mp,mq,rfl⟩:=l.2 _ _ _ rfl (r.nV hd l60)
 obtain⟨xs,ys,C,R,qs,g,rfl,rfl,rfl⟩:=r
 obtain⟨⟨x0,x1⟩,y0,y1⟩:=g.ends
 have k:=A4 hd g.fx g.fy g.c0 g.r0 g.cov (xO mp x0 x1) (xO mq y0 y1)
 simp only[and_eq_true,A3] at k
 obtain⟨⟨_,a⟩,⟨_,b⟩,c⟩:=k
 rw[decide_eq_true a,decide_eq_true b,c]
 rfl
theorem kK.Pr{d:Int}{w h:N3}{ts:List Tl}(r:kK d w h ts)(l60:ts.length<=60):MN 0 ts:=by
 obtain⟨xs,ys,C,R,qs,g,rfl,rfl,rfl⟩:=r
 have zx:xs.getD 0 ax=ax:=by rw[getD_eq_getElem?_getD,g.fx.zero];rfl
 have zy:ys.getD 0 ax=ax:=by rw[getD_eq_getElem?_getD,g.fy.zero];rfl
 have ap:∀q∈qs,∀p∈qs,∀i j,q.has i j->p.has i j->q=p:=fun q hq p hp i j h1 h2=>by
  refine Classical.byContradiction fun ne=>?_
  have:=g.cov.apart
  rcases List.mem_iff_getElem.mp hq with ⟨a,ha,rfl⟩
  rcases List.mem_iff_getElem.mp hp with ⟨b,hb,rfl⟩
  rcases Nat.lt_trichotomy a b with z|z|z
  ·exact List.pairwise_iff_getElem.mp this a b ha hb z i j h1 h2
  ·subst z;exact ne rfl
  ·exact List.pairwise_iff_getElem.mp this b a hb ha z i j h2 h1
 refine⟨ax::(qs.map (eY xs ys)).map (fun t=>plus t.x t.w),ax::(qs.map (eY xs ys)).map (fun t=>plus t.y t.h),fun t ht=>?_,by simp only[length_cons,length_map] at l60 ⊢;omega,by simp only[length_cons,length_map] at l60 ⊢;omega⟩
 obtain⟨q,hq,rfl⟩:=List.mem_map.mp ht
 have f:=g.cov.fits q hq
 refine⟨?_,mem_cons_of_mem _ (List.mem_map.mpr ⟨_,ht,rfl⟩),?_,mem_cons_of_mem _ (List.mem_map.mpr ⟨_,ht,rfl⟩)⟩
 ·show xs.getD q.l ax∈_
  rcases Nat.eq_zero_or_pos q.l with z|z
  ·rw[z,zx];exact mem_cons_self
  ·obtain⟨p,hp,hh⟩:=g.cov.all (q.l-1) q.b ∅ ∅
   have fp:=g.cov.fits p hp
   have e:p.r=q.l:=by
    rcases lt_or_ge q.l p.r with y|y
    ·have:=ap q hq p hp q.l q.b ⟨le_refl _,f.1,le_refl _,f.2.2.1⟩ ⟨by have:=hh.1;omega,y,hh.2.2⟩
     subst this
     have:=hh.1
     omega
    ·have:=hh.2.1
     omega
   refine mem_cons_of_mem _ (List.mem_map.mpr ⟨_,mem_map_of_mem hp,?_⟩)
   rw[uB (R:=R) g.fx fp.1 fp.2.1,e]
 ·show ys.getD q.b ax∈_
  rcases Nat.eq_zero_or_pos q.b with z|z
  ·rw[z,zy];exact mem_cons_self
  ·obtain⟨p,hp,hh⟩:=g.cov.all q.l (q.b-1) ∅ ∅
   have fp:=g.cov.fits p hp
   have e:p.t=q.b:=by
    rcases lt_or_ge q.b p.t with y|y
    ·have:=ap q hq p hp q.l q.b ⟨le_refl _,f.1,le_refl _,f.2.2.1⟩ ⟨hh.1,hh.2.1,by have:=hh.2.2.1;omega,y⟩
     subst this
     have:=hh.2.2.1
     omega
    ·have:=hh.2.2.2
     omega
   refine mem_cons_of_mem _ (List.mem_map.mpr ⟨_,mem_map_of_mem hp,?_⟩)
   rw[uV (C:=C) g.fy fp.2.2.1 fp.2.2.2,e]
theorem kK.v{d:Int}(hd:aJ d){n:Nat}{w h:N3}{ts:List Tl}(r:kK d w h ts)(l60:ts.length<=60)(bw:Bd n w)(bh:Bd n h)(bd:∀t∈ts,Bd4 n t):KU 0 n w h ts:=by
 have v:=r.nV hd l60
 exact⟨v.ow,v.oh,bw,bh,fun t ht=>⟨(v.tile t ht).ox,(v.tile t ht).oy,(v.tile t ht).ow,(v.tile t ht).oh⟩,bd,v.some,l60,r.Pr l60⟩
theorem Drawn.r{d:Int}(hd:aJ d){t:PyData}(h:Drawn d t):∃w k ts,t=cm w k ts/\kK d w k ts/\KU 0 13 w k ts:=by
 obtain⟨xs,ys,C,R,qs,g,rfl⟩:=h
 exact⟨_,_,_,rfl,⟨xs,ys,C,R,qs,⟨g.fx,g.fy,g.c0,g.r0,g.cov⟩,rfl,rfl,rfl⟩,(g.v hd).1⟩
noncomputable def swT(t:Tl):Tl:=⟨t.y,t.x,t.h,t.w⟩
noncomputable def swB(q:GR.Bx):GR.Bx:=⟨q.b,q.t,q.l,q.r⟩
theorem Cv{q:GR.Bx}{i j:Nat}:(swB q).has i j↔q.has j i:=⟨fun h=>⟨h.2.2.1,h.2.2.2,h.1,h.2.1⟩,fun h=>⟨h.2.2.1,h.2.2.2,h.1,h.2.1⟩⟩
theorem kK.swap{d:Int}{w h:N3}{ts:List Tl}(r:kK d w h ts):kK d h w (ts.map swT):=by
 obtain⟨xs,ys,C,R,qs,g,rfl,rfl,rfl⟩:=r
 refine⟨ys,xs,R,C,qs.map swB,⟨g.fy,g.fx,g.r0,g.c0,⟨fun q hq=>?_,?_,fun i j hi hj=>?_⟩⟩,rfl,rfl,?_⟩
 ·obtain⟨p,hp,rfl⟩:=List.mem_map.mp hq
  have f:=g.cov.fits p hp
  exact⟨f.2.2.1,f.2.2.2,f.1,f.2.1⟩
 ·rw[pairwise_map]
  exact g.cov.apart.imp fun {a b} h i j h1 h2=>h j i (Cv.mp h1) (Cv.mp h2)
 ·obtain⟨q,hq,hh⟩:=g.cov.all j i hj hi
  exact⟨_,mem_map_of_mem hq,Cv.mpr hh⟩
 ·rw[map_map,map_map];rfl
theorem Bb{w a b:N3}(ow:Ok w)(oa:Ok a)(ob:Ok b):less (less w a) (less w b)=less b a:=
 (((aR ow).less ow oa (aR oa)).less (aZ ow oa) (aZ ow ob) ((aR ow).less ow ob (aR ob))).eq (aZ (aZ ow oa) (aZ ow ob)) (aZ ob oa) ((aR ob).less ob oa (aR oa)) (by grind) (by grind)
theorem rK{w a b:N3}(ow:Ok w)(oa:Ok a)(ob:Ok b):less (less w a) b=less w (plus a b):=
 (((aR ow).less ow oa (aR oa)).less (aZ ow oa) ob (aR ob)).eq (aZ (aZ ow oa) ob) (aZ ow (bS oa ob)) ((aR ow).less ow (bS oa ob) ((aR oa).plus oa ob (aR ob))) (by grind) (by grind)
theorem Jt{w:N3}(ow:Ok w):less w w=ax:=
 ((aR ow).less ow ow (aR ow)).eq (aZ ow ow) gY (aR gY) (by show _=(0:Int)*_;grind) (by show _=(0:Int)*_;grind)
theorem Eb{w:N3}(ow:Ok w):less w ax=w:=
 ((aR ow).less ow gY (aR gY)).eq (aZ ow gY) ow (aR ow) (by show (w.a*1-0*_)*_=_*(_*1);grind) (by show (w.b*1-0*_)*_=_*(_*1);grind)
theorem KD{d:Int}(hd:aJ d){w a b:N3}(ow:Ok w)(oa:Ok a)(ob:Ok b):dif d (less w a) (less w b)=dif d b a:=by
 rw[<- tZ hd (aZ ow oa) (aZ ow ob),Bb ow oa ob,tZ hd ob oa]
noncomputable def tD(w:N3)(t:Tl):Tl:=⟨less (less w t.x) t.w,t.y,t.w,t.h⟩
noncomputable def eQ(h:N3)(t:Tl):Tl:=⟨less (less h t.y) t.h,t.x,t.h,t.w⟩
noncomputable def Dl(xs:List N3)(C:Nat):List N3:=(List.range (C+1)).map fun i=>less (xs.getD C ax) (xs.getD (C-i) ax)
theorem C5{xs:List N3}{C i:Nat}(h:i<=C):(Dl xs C).getD i ax=less (xs.getD C ax) (xs.getD (C-i) ax):=by
 unfold Dl
 rw[getD_eq_getElem?_getD,getElem?_map,List.getElem?_range ∅]
 rfl
theorem fD.mir{d:Int}(hd:aJ d){xs:List N3}{C:Nat}(f:fD d xs C):fD d (Dl xs C) C:=by
 refine⟨by unfold Dl;simp,?_,fun x hx=>?_,?_⟩
 ·unfold da Dl
  rw[pairwise_map,List.pairwise_iff_getElem]
  intro i j hi hj l
  rw[List.getElem_range,List.getElem_range]
  rw[List.length_range] at hi hj
  rw[KD hd (f.bD (le_refl _)) (f.bD ∅) (f.bD ∅)]
  exact f.lt ∅ ∅
 ·unfold Dl at hx
  obtain⟨i,hi,rfl⟩:=List.mem_map.mp hx
  exact aZ (f.bD (le_refl _)) (f.bD ∅)
 ·unfold Dl
  rw[getElem?_map,List.getElem?_range ∅]
  show some (less (xs.getD C ax) (xs.getD C ax))=_
  rw[Jt (f.bD (le_refl _))]
noncomputable def J8(C:Nat)(q:GR.Bx):GR.Bx:=⟨C-q.r,C-q.l,q.b,q.t⟩
theorem zb{C:Nat}{q:GR.Bx}(hr:q.r<=C){i j:Nat}(hi:i<C):(J8 C q).has i j↔q.has (C-1-i) j:=by
 unfold GR.Bx.has J8
 show C-q.r<=i/\i<C-q.l/\_↔_
 constructor
 ·rintro ⟨a,b,c⟩;exact⟨∅,∅,c⟩
 ·rintro ⟨a,b,c⟩;exact⟨∅,∅,c⟩
theorem kK.mir{d:Int}(hd:aJ d){w h:N3}{ts:List Tl}(r:kK d w h ts):kK d w h (ts.map (tD w)):=by
 obtain⟨xs,ys,C,R,qs,g,rfl,rfl,rfl⟩:=r
 have zx:xs.getD 0 ax=ax:=by rw[getD_eq_getElem?_getD,g.fx.zero];rfl
 have oC:=g.fx.bD (le_refl C)
 refine⟨Dl xs C,ys,C,R,qs.map (J8 C),⟨g.fx.mir hd,g.fy,g.c0,g.r0,⟨fun q hq=>?_,?_,fun i j hi hj=>?_⟩⟩,?_,rfl,?_⟩
 ·obtain⟨p,hp,rfl⟩:=List.mem_map.mp hq
  have f:=g.cov.fits p hp
  exact⟨show C-p.r<C-p.l by omega,Nat.sub_le _ _,f.2.2⟩
 ·rw[pairwise_map]
  refine g.cov.apart.imp_of_mem fun {a b} ha hb h i j h1 h2=>?_
  have fa:=g.cov.fits a ha
  have fb:=g.cov.fits b hb
  have hi:i<C:=by have:i<C-a.l:=h1.2.1;omega
  exact h _ j ((zb fa.2.1 hi).mp h1) ((zb fb.2.1 hi).mp h2)
 ·obtain⟨q,hq,hh⟩:=g.cov.all (C-1-i) j ∅ hj
  exact⟨_,mem_map_of_mem hq,(zb (g.cov.fits q hq).2.1 hi).mpr hh⟩
 ·rw[C5 (le_refl C),Nat.sub_self,zx,Eb oC]
 ·rw[map_map,map_map]
  refine List.map_congr_left fun q hq=>?_
  have f:=g.cov.fits q hq
  have ol:=g.fx.bD (show q.l<=C by omega)
  have or_:=g.fx.bD f.2.1
  show tD (xs.getD C ax) (eY xs ys q)=eY (Dl xs C) ys (J8 C q)
  unfold tD eY J8
  dsimp only
  rw[C5 (show C-q.l<=C by omega),C5 (show C-q.r<=C by omega),rK oC ol (aZ or_ ol),ve ol or_,Bb oC (g.fx.bD ∅) (g.fx.bD ∅),show C-(C-q.l)=q.l by omega,show C-(C-q.r)=q.r by omega]
theorem kK.turn{d:Int}(hd:aJ d){w h:N3}{ts:List Tl}(r:kK d w h ts):kK d h w (ts.map (eQ h)):=by
 have:=r.swap.mir hd
 rw[map_map] at this
 exact this
theorem M6{n m:Nat}{w:N3}{t:Tl}(ow:Ok w)(ot:TOk t)(bw:Bd m w)(bt:Bd4 n t)(hn:m+2*n+2<=2000000000):Bd4 (m+2*n+2) (tD w t):=
 ⟨(kF (aZ ow ot.x) ot.w (kF ow ot.x bw bt.x) bt.w).mono ∅,bt.y.mono ∅,bt.w.mono ∅,bt.h.mono ∅⟩
theorem Mt{n m:Nat}{h:N3}{t:Tl}(oh:Ok h)(ot:TOk t)(bh:Bd m h)(bt:Bd4 n t):Bd4 (m+2*n+2) (eQ h t):=
 ⟨(kF (aZ oh ot.y) ot.h (kF oh ot.y bh bt.y) bt.h).mono ∅,bt.x.mono ∅,bt.h.mono ∅,bt.w.mono ∅⟩
theorem BA{w x a:N3}(ow:Ok w)(ox:Ok x)(oa:Ok a):less (less w (less (less w x) a)) a=x:=by
 have o1:=aZ (aZ ow ox) oa
 rw[rK ow o1 oa,rK ow ox oa]
 exact ((aR ow).less ow (bS (aZ ow (bS ox oa)) oa) (((aR ow).less ow (bS ox oa) ((aR ox).plus ox oa (aR oa))).plus (aZ ow (bS ox oa)) oa (aR oa))).eq (aZ ow (bS (aZ ow (bS ox oa)) oa)) ox (aR ox) (by grind) (by grind)
structure gO(d:Int)(n:Nat)(w h:N3)(ts:List Tl):Prop where
 root:aJ d
 r:kK d w h ts
 l60:ts.length<=60
 bw:Bd n w
 bh:Bd n h
 bd:∀t∈ts,Bd4 n t
noncomputable def lQ:DSp:=fun ds Z Q=>∃(d:Int) (t:PyData),ds=[.v (.int d),.v t]/\aJ d/\Lb t/\(∀b,HI d t b->b=true)/\Q (.v .none) Z
theorem zR{ds:List D}{Z:Mu}{Q:DK}(h:lQ ds Z Q):ds.length=2:=by obtain⟨_,_,rfl,_⟩:=h;rfl
noncomputable def Dm(f:N3->Tl->Tl):DSp:=fun ds Z Q=>∃(h:N3) (t:Tl),ds=[.v (dN h),.v (tlD t)]/\Ok h/\TOk t/\Bd 2000 h/\Bd4 2000 t/\Q (.v (tlD (f h t))) Z
noncomputable abbrev xa:DSp:=Dm eQ
noncomputable abbrev Cs:DSp:=Dm tD
theorem vR{f:N3->Tl->Tl}{ds:List D}{Z:Mu}{Q:DK}(h:Dm f ds Z Q):ds.length=2:=by obtain⟨_,_,rfl,_⟩:=h;rfl
noncomputable abbrev DZ{ds:List D}{Z:Mu}{Q:DK}(h:xa ds Z Q):ds.length=2:=vR h
noncomputable abbrev Gg{ds:List D}{Z:Mu}{Q:DK}(h:Cs ds Z Q):ds.length=2:=vR h
noncomputable def mr:DSp:=fun ds Z Q=>∃(d:Int) (w h:N3) (ts:List Tl),ds=[.v (.int d),.v (cm w h ts)]/\gO d 2000 w h ts/\Q (.v (cm h w (ts.map (eQ h)))) Z
noncomputable def gZ:DSp:=fun ds Z Q=>∃(d:Int) (w h:N3) (ts:List Tl),ds=[.v (.int d),.v (cm w h ts)]/\gO d 2000 w h ts/\Q (.v (cm w h (ts.map (tD w)))) Z
theorem CZ{ds:List D}{Z:Mu}{Q:DK}(h:mr ds Z Q):ds.length=2:=by obtain⟨_,_,_,_,rfl,_⟩:=h;rfl
theorem ze{ds:List D}{Z:Mu}{Q:DK}(h:gZ ds Z Q):ds.length=2:=by obtain⟨_,_,_,_,rfl,_⟩:=h;rfl
noncomputable def qg:DSp:=fun ds Z Q=>∃(d:Int) (w h:N3) (ts:List Tl),ds=[.v (cm w h ts)]/\gO d 2000 w h ts/\Q (.v (cm h w (ts.map (eQ h)))) Z
noncomputable def xf:DSp:=fun ds Z Q=>∃(d:Int) (w h:N3) (ts:List Tl),ds=[.v (cm w h ts)]/\gO d 2000 w h ts/\Q (.v (cm w h (ts.map (tD w)))) Z
theorem Ae{ds:List D}{Z:Mu}{Q:DK}(h:qg ds Z Q):ds.length=1:=by obtain⟨_,_,_,_,rfl,_⟩:=h;rfl
theorem Fp{ds:List D}{Z:Mu}{Q:DK}(h:xf ds Z Q):ds.length=1:=by obtain⟨_,_,_,_,rfl,_⟩:=h;rfl
noncomputable def gc:DTS:=
 (cF (du (dB (az tM (ag (ah 0) (ag (ah 1) aw))))) CH bA)
noncomputable def j0:DTS:=
 (aK (bc (ah 1) (bU 4 (aA (ao 2) (aA (ao 3) (aA (ao 4) (aA (ao 5) bY))))))
 (bb (bT (ag (az fE (ag (az fE (ag (ah 0) (ag (ah 3) aw))) (ag (ah 5) aw))) (ag (ah 2) (ag (ah 5) (ag (ah 4) aw)))))))
noncomputable def ie:DTS:=
 (aK (bc (ah 1) (bU 4 (aA (ao 2) (aA (ao 3) (aA (ao 4) (aA (ao 5) bY))))))
 (bb (bT (ag (az fE (ag (az fE (ag (ah 0) (ag (ah 2) aw))) (ag (ah 4) aw))) (ag (ah 3) (ag (ah 4) (ag (ah 5) aw)))))))
noncomputable def uN:DTS:=
 (aK (nE (az lQ (ag (ah 0) (ag (ah 1) aw))))
 (aK (bc (ah 1) (bU 3 (aA (ao 2) (aA (ao 3) (aA (ao 4) bY)))))
 (bb (bT (ag (ah 3) (ag (ah 2) (ag (dCB iB (ag (nN [none,some 3] (gR (ah 4)) (ao 0) gp (az xa (ag (ah 1) (ag (ah 0) aw)))) aw)) aw)))))))
noncomputable def oV:DTS:=
 (aK (nE (az lQ (ag (ah 0) (ag (ah 1) aw))))
 (aK (bc (ah 1) (bU 3 (aA (ao 2) (aA (ao 3) (aA (ao 4) bY)))))
 (bb (bT (ag (ah 2) (ag (ah 3) (ag (dCB iB (ag (nN [none,some 2] (gR (ah 4)) (ao 0) gp (az Cs (ag (ah 1) (ag (ah 0) aw)))) aw)) aw)))))))
section
variable {Z:Mu}{Qd:DK}{ds:List D}
theorem gO.nV{d:Int}{n:Nat}{w h:N3}{ts:List Tl}(L:gO d n w h ts):vN d w h ts:=L.r.nV L.root L.l60
theorem gO.tok{d:Int}{n:Nat}{w h:N3}{ts:List Tl}(L:gO d n w h ts){t:Tl}(ht:t∈ts):TOk t:=⟨(L.nV.tile t ht).ox,(L.nV.tile t ht).oy,(L.nV.tile t ht).ow,(L.nV.tile t ht).oh⟩
theorem gO.lp{d:Int}{n:Nat}{w h:N3}{ts:List Tl}(L:gO d n w h ts)(hn:n<=2100):Lb (cm w h ts):=((L.r.v L.root L.l60 L.bw L.bh L.bd).q ∅).p ⋯ hn
theorem gO.yes{d:Int}{n:Nat}{w h:N3}{ts:List Tl}(L:gO d n w h ts)(b:Bool)(l:HI d (cm w h ts) b):b=true:=L.r.yes L.root L.l60 l
theorem Bd4.mono{n m:Nat}{t:Tl}(b:Bd4 n t)(h:n<=m):Bd4 m t:=⟨b.x.mono h,b.y.mono h,b.w.mono h,b.h.mono h⟩
theorem gO.mono{d:Int}{n m:Nat}{w h:N3}{ts:List Tl}(L:gO d n w h ts)(k:n<=m):gO d m w h ts:=⟨L.root,L.r,L.l60,L.bw.mono k,L.bh.mono k,fun t ht=>(L.bd t ht).mono k⟩
theorem gO.turn{d:Int}{n m:Nat}{w h:N3}{ts:List Tl}(L:gO d n w h ts)(k:3*n+2<=m):gO d m h w (ts.map (eQ h)):=by
 refine⟨L.root,L.r.turn L.root,by rw[length_map];exact L.l60,L.bh.mono ∅,L.bw.mono ∅,fun t ht=>?_⟩
 obtain⟨u,hu,rfl⟩:=List.mem_map.mp ht
 exact (Mt L.nV.oh (L.tok hu) L.bh (L.bd u hu)).mono ∅
theorem gO.mir{d:Int}{n m:Nat}{w h:N3}{ts:List Tl}(L:gO d n w h ts)(k:3*n+2<=m)(hn:n<=2000):gO d m w h (ts.map (tD w)):=by
 refine⟨L.root,L.r.mir L.root,by rw[length_map];exact L.l60,L.bw.mono ∅,L.bh.mono ∅,fun t ht=>?_⟩
 obtain⟨u,hu,rfl⟩:=List.mem_map.mp ht
 exact (M6 L.nV.ow (L.tok hu) L.bw (L.bd u hu) ∅).mono ∅
theorem tG(h:lQ ds Z Qd):gc ‹Qd› (aL ["d","thing"] ds) Z:=by
 obtain⟨d,t,rfl,hd,lp,yes,q⟩:=h
 unfold gc
 walk_at "rb"
 refine⟨d,t,rfl,hd,lp,fun b lb=>?_⟩
 obtain rfl:=yes b lb
 walk_at "rb"
 exact q
theorem yv(h:xa ds Z Qd):j0 ‹Qd› (aL ["floor_height","tile","x","y","width","height"] ds) Z:=by
 obtain⟨h,t,rfl,oh,ot,bh,bt,q⟩:=h
 unfold j0
 rw[show tlD t = .tuple [dN t.x,dN t.y,dN t.w,dN t.h] from rfl]
 walk_at "rb"
 refine⟨trivial,h,t.y,rfl,oh,ot.y,bh.mono ⋯,bt.y.mono ⋯,?_⟩
 walk_at "rb"
 refine⟨less h t.y,t.h,rfl,aZ oh ot.y,ot.h,(kF oh ot.y bh bt.y).mono ⋯,bt.h.mono ⋯,?_⟩
 walk_at "rb"
 exact q
theorem vn(h:Cs ds Z Qd):ie ‹Qd› (aL ["floor_width","tile","x","y","width","height"] ds) Z:=by
 obtain⟨w,t,rfl,ow,ot,bw,bt,q⟩:=h
 unfold ie
 rw[show tlD t = .tuple [dN t.x,dN t.y,dN t.w,dN t.h] from rfl]
 walk_at "rb"
 refine⟨trivial,w,t.x,rfl,ow,ot.x,bw.mono ⋯,bt.x.mono ⋯,?_⟩
 walk_at "rb"
 refine⟨less w t.x,t.w,rfl,aZ ow ot.x,ot.w,(kF ow ot.x bw bt.x).mono ⋯,bt.w.mono ⋯,?_⟩
 walk_at "rb"
 exact q
noncomputable def gTl(f:Tl->Tl)(x:PyData):Option PyData:=open Classical in if h:∃t,x=tlD t then some (tlD (f h.choose)) else none
theorem y8{f:Tl->Tl}{t:Tl}:gTl f (tlD t)=some (tlD (f t)):=by
 unfold gTl
 have h:∃u,tlD t=tlD u:=⟨t,rfl⟩
 rw[dif_pos h,<- wZ h.choose_spec]
theorem xl{f:Tl->Tl}(ts:List Tl):(ts.map tlD).filterMap (gTl f)=(ts.map f).map tlD:=by
 induction ts with
 |nil=>rfl
 |cons t ts ih=>rw[map_cons,filterMap_cons,y8,ih];rfl
theorem JT(h:mr ds Z Qd):uN ‹Qd› (aL ["d","laying","width","height","tiles"] ds) Z:=by
 obtain⟨d,w,h,ts,rfl,L,q⟩:=h
 have l60:=L.l60
 unfold uN
 walk_at "rb"
 refine⟨d,_,rfl,L.root,L.lp ⋯,L.yes,?_⟩
 rw[show cm w h ts = .tuple [dN w,dN h,.tuple (ts.map tlD)] from rfl]
 walk_at "rb"
 rw[kU]
 walk_at "rb"
 refine⟨trivial,by rw[length_map];omega,gTl (eQ h),?_,?_⟩
 ·intro x hx U _
  obtain⟨t,ht,rfl⟩:=List.mem_map.mp hx
  simp only[true_and,and_true,↓reduceIte]
  refine⟨h,t,rfl,L.nV.oh,L.tok ht,L.bh,L.bd t ht,?_⟩
  walk_at "rb"
  exact⟨trivial,y8⟩
 rw[xl]
 exact q
theorem DH(h:gZ ds Z Qd):oV ‹Qd› (aL ["d","laying","width","height","tiles"] ds) Z:=by
 obtain⟨d,w,h,ts,rfl,L,q⟩:=h
 have l60:=L.l60
 unfold oV
 walk_at "rb"
 refine⟨d,_,rfl,L.root,L.lp ⋯,L.yes,?_⟩
 rw[show cm w h ts = .tuple [dN w,dN h,.tuple (ts.map tlD)] from rfl]
 walk_at "rb"
 rw[kU]
 walk_at "rb"
 refine⟨trivial,by rw[length_map];omega,gTl (tD w),?_,?_⟩
 ·intro x hx U _
  obtain⟨t,ht,rfl⟩:=List.mem_map.mp hx
  simp only[true_and,and_true,↓reduceIte]
  refine⟨w,t,rfl,L.nV.ow,L.tok ht,L.bw,L.bd t ht,?_⟩
  walk_at "rb"
  exact⟨trivial,y8⟩
 rw[xl]
 exact q
end
noncomputable def dS:DTS:=
 (aK (bc (ah 0) (bU 3 (aA (ao 1) (aA (ao 2) (aA (ao 3) bY)))))
 (bb (bT (ag (ah 2) (ag (ah 1) (ag (dCB iB (ag (nN [none,none,none,none,some 2] (gR (ah 3)) (bU 4 (aA (ao 0) (aA (ao 1) (aA (ao 2) (aA (ao 3) bY))))) gp (bT (ag (az fE (ag (az fE (ag (ah 4) (ag (ah 1) aw))) (ag (ah 3) aw))) (ag (ah 0) (ag (ah 3) (ag (ah 2) aw)))))) aw)) aw))))))
noncomputable def fG:DTS:=
 (aK (bc (ah 0) (bU 3 (aA (ao 1) (aA (ao 2) (aA (ao 3) bY)))))
 (bb (bT (ag (ah 1) (ag (ah 2) (ag (dCB iB (ag (nN [none,none,none,none,some 1] (gR (ah 3)) (bU 4 (aA (ao 0) (aA (ao 1) (aA (ao 2) (aA (ao 3) bY))))) gp (bT (ag (az fE (ag (az fE (ag (ah 4) (ag (ah 0) aw))) (ag (ah 2) aw))) (ag (ah 1) (ag (ah 2) (ag (ah 3) aw)))))) aw)) aw))))))
noncomputable def GW:DTS:=
 (aK (nU (oR (ag (dCB (CL max) (ag (dC (.int 2)) (ag (dCB (CL min) (ag (dC (.int 4)) (ag (dCB dw (ag (ah 0) aw)) aw))) aw))) aw)) (ao 1) (aK (bc (az Il (ag (ah 0) (ag (ah 1) aw))) (ao 2))
 (aK (bc (az w5 (ag (ah 2) aw)) (ao 3))
 (aK (bc (az pS (ag (ah 2) (ag (ah 3) aw))) (ao 4))
 (aK (bc (qx (ag (ah 4) aw)) (ao 5))
 (aK (nU (oR (ag (dC (.int 4)) aw)) (ao 6) (aK (nE (Jf (ah 5) (az mr (ag (ah 3) (ag (dOp aM (ah 5) (qL (dC (.int 1)))) aw)))))
 (cF (fZ (dB (dOp (cM true) (dOp aM (ah 5) (qL (dC (.int 1)))) (az qg (ag (dOp aM (ah 5) (qL (dC (.int 2)))) aw)))) (du (dB (az lJ (ag (ah 3) (ag (dOp aM (ah 5) (qL (dC (.int 1)))) aw)))))) (bb (dC (.bool false))) bA)))
 (aK (bc (az gZ (ag (ah 3) (ag (ah 4) aw))) (ao 7))
 (aK (cF (fZ (dB (dOp (cM true) (dOp aM (ah 5) (dC (.int 4))) (ah 4))) (fZ (dB (dOp (cM true) (ah 7) (az xf (ag (ah 4) aw)))) (du (dB (az lJ (ag (ah 3) (ag (ah 7) aw))))))) (bb (dC (.bool false))) bA)
 (cF (fZ (dB (dOp (cM true) (az gZ (ag (ah 3) (ag (ah 7) aw))) (ah 4))) (fZ (dB (dOp (cM true) (az gZ (ag (ah 3) (ag (az mr (ag (ah 3) (ag (ah 7) aw))) aw))) (dOp aM (ah 5) (dC (.int 3))))) (dB (dOp (cM true) (az mr (ag (ah 3) (ag (ah 4) aw))) (dOp aM (ah 5) (dC (.int 1))))))) (bb (dC (.bool false))) bA)))))))))
 (bb (dC (.bool true))))
section
variable {Z:Mu}{Qd:DK}{ds:List D}
theorem nS(h:qg ds Z Qd):dS ‹Qd› (aL ["_law_laying_here","_law_width","_law_height","_law_tiles"] ds) Z:=by
 obtain⟨d,w,h,ts,rfl,L,q⟩:=h
 have l60:=L.l60
 unfold dS
 rw[show cm w h ts = .tuple [dN w,dN h,.tuple (ts.map tlD)] from rfl]
 walk_at "rb"
 rw[kU]
 walk_at "rb"
 refine⟨trivial,by rw[length_map];omega,gTl (eQ h),?_,?_⟩
 ·intro x hx U _
  obtain⟨t,ht,rfl⟩:=List.mem_map.mp hx
  have ot:=L.tok ht
  have bt:=L.bd t ht
  have oh:=L.nV.oh
  rw[y8,show tlD t = .tuple [dN t.x,dN t.y,dN t.w,dN t.h] from rfl]
  walk_at "rb"
  simp only[true_and,and_true,↓reduceIte]
  refine⟨h,t.y,rfl,oh,ot.y,L.bh.mono ⋯,bt.y.mono ⋯,?_⟩
  walk_at "rb"
  refine⟨less h t.y,t.h,rfl,aZ oh ot.y,ot.h,(kF oh ot.y L.bh bt.y).mono ⋯,bt.h.mono ⋯,?_⟩
  walk_at "rb"
  exact⟨trivial,rfl⟩
 rw[xl]
 exact q
theorem rn(h:xf ds Z Qd):fG ‹Qd› (aL ["_law_laying_here","_law_width","_law_height","_law_tiles"] ds) Z:=by
 obtain⟨d,w,h,ts,rfl,L,q⟩:=h
 have l60:=L.l60
 unfold fG
 rw[show cm w h ts = .tuple [dN w,dN h,.tuple (ts.map tlD)] from rfl]
 walk_at "rb"
 rw[kU]
 walk_at "rb"
 refine⟨trivial,by rw[length_map];omega,gTl (tD w),?_,?_⟩
 ·intro x hx U _
  obtain⟨t,ht,rfl⟩:=List.mem_map.mp hx
  have ot:=L.tok ht
  have bt:=L.bd t ht
  have ow:=L.nV.ow
  rw[y8,show tlD t = .tuple [dN t.x,dN t.y,dN t.w,dN t.h] from rfl]
  walk_at "rb"
  simp only[true_and,and_true,↓reduceIte]
  refine⟨w,t.x,rfl,ow,ot.x,L.bw.mono ⋯,bt.x.mono ⋯,?_⟩
  walk_at "rb"
  refine⟨less w t.x,t.w,rfl,aZ ow ot.x,ot.w,(kF ow ot.x L.bw bt.x).mono ⋯,bt.w.mono ⋯,?_⟩
  walk_at "rb"
  exact⟨trivial,rfl⟩
 rw[xl]
 exact q
noncomputable def trI(w h:N3)(ts:List Tl):Nat->N3×N3×List Tl
 |0=>(w,h,ts)
 |i+1=>((trI w h ts i).2.1,(trI w h ts i).1,(trI w h ts i).2.2.map (eQ (trI w h ts i).2.1))
noncomputable def zM(p:N3×N3×List Tl):PyData:=cm p.1 p.2.1 p.2.2
theorem KY{d:Int}{w h:N3}{ts:List Tl}(L:gO d 13 w h ts):∀i,i<=4->gO d (14*3 ^ i-1) (trI w h ts i).1 (trI w h ts i).2.1 (trI w h ts i).2.2
 |0,_=>L
 |i+1,h=>(KY L i ∅).turn (by have:0<3 ^ i:=Nat.pow_pos ⋯;rw[pow_succ];omega)
theorem RL{d:Int}{w h:N3}{ts:List Tl}(L:gO d 13 w h ts)(i:Nat)(hi:i<=4):gO d 2000 (trI w h ts i).1 (trI w h ts i).2.1 (trI w h ts i).2.2:=
 (KY L i hi).mono (by have:3 ^ i<=3 ^ 4:=Nat.pow_le_pow_right ⋯ hi;omega)
theorem QP{d:Int}{w h:N3}{ts:List Tl}(L:gO d 13 w h ts):trI w h ts 4=(w,h,ts):=by
 show (w,h,(((ts.map (eQ h)).map (eQ w)).map (eQ h)).map (eQ w))=_
 rw[map_map,map_map,map_map]
 have:ts.map (((eQ w ∘ eQ h) ∘ eQ w) ∘ eQ h)=ts:=by
  conv=>rhs;rw[<- map_id ts]
  refine List.map_congr_left fun t ht=>?_
  have ot:=L.tok ht
  show (⟨less (less w (less (less w t.x) t.w)) t.w,less (less h (less (less h t.y) t.h)) t.h,t.w,t.h⟩:Tl)=t
  rw[BA L.nV.ow ot.x ot.w,BA L.nV.oh ot.y ot.h]
 rw[this]
theorem Sl{d:Int}{w h:N3}{ts:List Tl}(L:gO d 13 w h ts):(ts.map (tD w)).map (tD w)=ts:=by
 rw[map_map]
 conv=>rhs;rw[<- map_id ts]
 refine List.map_congr_left fun t ht=>?_
 have ot:=L.tok ht
 show (⟨less (less w (less (less w t.x) t.w)) t.w,t.y,t.w,t.h⟩:Tl)=t
 rw[BA L.nV.ow ot.x ot.w]
theorem QJ{w h:N3}{ts:List Tl}:zM (trI w h ts 3)=cm h w (((ts.map (tD w)).map (eQ h)).map (tD h)):=by
 show cm h w (((ts.map (eQ h)).map (eQ w)).map (eQ h))=_
 rw[map_map,map_map,map_map,map_map]
 rfl
noncomputable def qR(w h:N3)(ts:List Tl)(n:Nat):List PyData:=(List.range n).map fun j=>zM (trI w h ts j)
theorem L7{w h:N3}{ts:List Tl}{n:Nat}:qR w h ts (n+1)=qR w h ts n++[zM (trI w h ts n)]:=by unfold qR;rw[List.range_succ,map_append];rfl
theorem EE{w h:N3}{ts:List Tl}{n:Nat}:(qR w h ts n).length=n:=by unfold qR;rw[length_map,List.length_range]
theorem uX{w h:N3}{ts:List Tl}{n:Nat}:atI (qR w h ts (n+1)) (-1)=some (zM (trI w h ts n)):=by rw[L7];exact LX _ _
theorem w4{w h:N3}{ts:List Tl}{n j:Nat}(hj:j<n):(qR w h ts n)[j]? = some (zM (trI w h ts j)):=by unfold qR;rw[getElem?_map,List.getElem?_range hj];rfl
theorem L6{w h:N3}{ts:List Tl}{n:Nat}:atI (qR w h ts (n+2)) (-2)=some (zM (trI w h ts n)):=by
 unfold atI ixN
 rw[EE,if_neg ⋯,if_pos ∅]
 show (qR w h ts (n+2))[(-2+((n+2:Nat):Int)).toNat]? = _
 rw[show (-2+((n+2:Nat):Int)).toNat=n by omega]
 exact w4 ∅
theorem Kg{xs:List PyData}(h:∀x∈xs,x.canLay0=true/\x.depth<=2):PyData.canLayAll0 xs=true/\PyData.depthAll xs<=2:=by
 induction xs with
 |nil=>exact⟨rfl,zero_le _⟩
 |cons x r ih=>
  have h1:=h x (by simp)
  have h2:=ih (fun y hy=>h y (by simp[hy]))
  rw[PyData.canLayAll0,PyData.depthAll,h1.1,h2.1]
  exact⟨rfl,∅⟩
theorem Gy{w h:N3}{ts:List Tl}:(cm w h ts).canLay0=true/\(cm w h ts).depth<=4:=by
 have dn:∀x:N3,(dN x).canLay0=true/\(dN x).depth<=1:=fun x=>⟨rfl,by simp[dN,PyData.depth,PyData.depthAll]⟩
 have dt:=Kg (xs:=ts.map tlD) fun x hx=>by
  obtain⟨t,_,rfl⟩:=List.mem_map.mp hx
  refine⟨rfl,?_⟩
  have h1:=(dn t.x).2
  have h2:=(dn t.y).2
  have h3:=(dn t.w).2
  have h4:=(dn t.h).2
  unfold tlD
  simp only[PyData.depth,PyData.depthAll]
  omega
 have h1:=(dn w).2
 have h2:=(dn h).2
 unfold cm
 simp only[PyData.canLay0,PyData.canLayAll0,PyData.depth,PyData.depthAll,(dn w).1,(dn h).1,dt.1,Bool.true_and,Bool.and_true,true_and]
 omega
theorem PV{w h:N3}{ts:List Tl}:SeqAt.shaped (cm w h ts)=true:=by
 unfold SeqAt.shaped
 rw[Gy.1,Bool.true_and,decide_eq_true_eq]
 have:=Gy (w:=w) (h:=h) (ts:=ts)
 omega
theorem MI{w h:N3}{ts:List Tl}:PyData.eqv (cm w h ts) (cm w h ts)=true:=SeqAt.eqv_refl _ Gy.1
theorem pQ{w h w' h':N3}{ts ts':List Tl}{neg:Bool}{Q:DK}(e:cm w h ts=cm w' h' ts')(q:Q (.v (.bool (neg ^^ true))) Z):cM neg (.v (cm w h ts)) (.v (cm w' h' ts')) Z Q:=by
 rw[<- e]
 unfold cm
 rw[Ip]
 have a:=PV (w:=w) (h:=h) (ts:=ts)
 have b:=MI (w:=w) (h:=h) (ts:=ts)
 unfold cm at a b
 rw[b]
 exact⟨a,a,q⟩
theorem Oi{w h:N3}{ts:List Tl}{i:Nat}:cm (trI w h ts i).2.1 (trI w h ts i).1 ((trI w h ts i).2.2.map (eQ (trI w h ts i).2.1))=zM (trI w h ts (i+1)):=rfl
theorem OA(h:x8 ds Z Qd):GW ‹Qd› (aL ["_law_script","_law_k","_law_bag_here","_law_d","_law_laying_here","_law_row","_law_turn","_law_other"] ds) Z:=by
 obtain⟨ns,rfl,h63,q⟩:=h
 unfold GW
 walk_at "rb"
 rw[jj]
 walk_at "rb"
 have hm:(-(2 ^ 62)<=max 2 (min 4 ((ns.length:Nat):Int))/\max 2 (min 4 ((ns.length:Nat):Int))<2 ^ 62):=by omega
 refine⟨hm,fun i ρ U=>∃r1 r2 r3 r4 r5 r6 r7,ρ=[some (.s ns),r1,r2,r3,r4,r5,r6,r7],⟨_,_,_,_,_,_,_,rfl⟩,?_,?_⟩
 ·rintro i x ρ wT hx ⟨r1,r2,r3,r4,r5,r6,r7,rfl⟩
  obtain⟨rfl,hi⟩:=tU hx
  walk_at "rb"
  refine⟨ns,_,rfl,∅,∅,fun a ad ha s1=>?_⟩
  walk_at "rb"
  refine⟨a,rfl,s1.1,fun d am hd s2=>?_⟩
  walk_at "rb"
  refine⟨a,d,rfl,hd,s2.1,fun t db dr s4=>?_⟩
  obtain⟨w,h,ts,rfl,lr,lv⟩:=dr.r hd
  have L:gO d 13 w h ts:=⟨hd,lr,lv.l60,lv.bw,lv.bh,lv.bd⟩
  have g:=RL L
  walk_at "rb"
  intro f hf
  rw[jj]
  walk_at "rb"
  refine⟨⋯,fun j ρ U=>∃r1 r6,ρ=[some (.s ns),r1,some (.m a),some (.v (.int d)),some (.v (cm w h ts)),some (.m f),r6,r7]/\U f=some (qR w h ts (j+1)),⟨_,_,rfl,aE⟩,?_,?_⟩
  ·rintro j x ρ jp hx ⟨r1,r6,rfl,hf5⟩
   obtain⟨rfl,hj⟩:=tU hx
   walk_at "rb"
   rw[hf5]
   dsimp only
   rw[uX]
   dsimp only
   refine⟨d,_,_,_,rfl,g j ∅,?_⟩
   walk_at "rb"
   rw[hf5,Oi]
   dsimp only
   rw[<- L7]
   refine⟨by rw[EE];omega,?_⟩
   simp only[aE,uX,L6]
   refine⟨d,_,_,_,rfl,g j ∅,?_⟩
   walk_at "rb"
   rw[Oi]
   refine pQ rfl ?_
   walk_at "rb"
   simp only[aE,uX]
   refine⟨d,_,rfl,hd,(g (j+1) ∅).lp ⋯,fun b lb=>?_⟩
   have gj:=g (j+1) ∅
   obtain rfl:=gj.r.law hd gj.l60 lb
   walk_at "rb"
   exact⟨_,_,rfl,aE⟩
  ·rintro ρ jp ⟨r1,r6,rfl,hf5⟩
   have hf5':jp f=some (qR w h ts 5):=hf5
   have L1:=L.mono (show 13<=2000 by decide)
   have M:=L.mir (m:=2000) ⋯ ⋯
   have M41:=L.mir (m:=41) ⋯ ⋯
   have MT:=M41.turn (m:=2000) ⋯
   walk_at "rb"
   refine⟨d,w,h,ts,rfl,L1,?_⟩
   walk_at "rb"
   rw[hf5']
   dsimp only
   rw[show atI (qR w h ts 5) 4=some (zM (trI w h ts 4)) from mQ (j:=4) (w4 ⋯),QP L]
   dsimp only
   refine pQ rfl ?_
   walk_at "rb"
   refine⟨d,w,h,ts,rfl,L1,?_⟩
   walk_at "rb"
   refine pQ rfl ?_
   walk_at "rb"
   refine⟨d,_,rfl,hd,M.lp ⋯,fun b lb=>?_⟩
   obtain rfl:=M.r.law hd M.l60 lb
   walk_at "rb"
   refine⟨d,w,h,_,rfl,M,?_⟩
   walk_at "rb"
   rw[Sl L]
   refine pQ rfl ?_
   walk_at "rb"
   refine⟨d,w,h,_,rfl,M,?_⟩
   walk_at "rb"
   refine⟨d,h,w,_,rfl,MT,?_⟩
   walk_at "rb"
   rw[hf5']
   dsimp only
   rw[show atI (qR w h ts 5) 3=some (zM (trI w h ts 3)) from mQ (j:=3) (w4 ⋯),QJ]
   dsimp only
   refine pQ rfl ?_
   walk_at "rb"
   refine⟨d,w,h,ts,rfl,L1,?_⟩
   walk_at "rb"
   rw[hf5']
   dsimp only
   rw[show atI (qR w h ts 5) 1=some (zM (trI w h ts 1)) from mQ (j:=1) (w4 ⋯)]
   dsimp only
   refine pQ rfl ?_
   walk_at "rb"
   exact⟨_,_,_,_,_,_,_,rfl⟩
 ·rintro ρ U ⟨r1,r2,r3,r4,r5,r6,r7,rfl⟩
  exact q _
end
end L2.DL
namespace K11
open PySem L2 L2.DL
local macro_rules|`(tactic| walk_at "cl")=>`(tactic| (intro _ _ h;first|exact h|exact cl1 h|exact cl2 nofun h|exact cl3 nofun h|exact ui (gN rfl EZ) _ _ h|exact ui (gN rfl (gN rfl EZ)) _ _ h|exact ui (gN rfl (gN rfl (gN rfl EZ))) _ _ h|exact ui (gN rfl (gN rfl (gN rfl (gN rfl EZ)))) _ _ h|exact ui (gN rfl (gN rfl (gN rfl (gN rfl (gN rfl EZ))))) _ _ h|exact ui (gN rfl (gN rfl (gN rfl (gN rfl (gN rfl (gN rfl EZ)))))) _ _ h|exact ui (gN rfl (gN rfl (gN rfl (gN rfl (gN rfl (gN rfl (gN rfl EZ))))))) _ _ h|exact ui EZ _ _ h|cases h))
set_option genInjectivity false in
structure Adr where
 mL:Addr
 rA:FuncData
 eE:Addr
 hV:FuncData
 kf:Addr
 oo:FuncData
 eP:Addr
 hX:FuncData
 rZ:Addr
 yj:FuncData
 Cz:Addr
 G0:FuncData
 C4:Addr
 Gi:FuncData
 pR:Addr
 uD:FuncData
 fc:Addr
 jg:FuncData
 mY:Addr
 qO:FuncData
 dX:Addr
 gI:FuncData
 pW:Addr
 vc:FuncData
 mO:Addr
 qH:FuncData
 kg:Addr
 oF:FuncData
 iK:Addr
 k8:FuncData
 gn:Addr
 j1:FuncData
 gz:Addr
 jL:FuncData
 iz:Addr
 kJ:FuncData
 j8:Addr
 pH:FuncData
 eJ:Addr
 ik:FuncData
 sC:Addr
 ym:FuncData
 iA:Addr
 kY:FuncData
 mD:Addr
 rC:FuncData
 fj:Addr
 i4:FuncData
 kr:Addr
 pj:FuncData
 ka:Addr
 nW:FuncData
 mI:Addr
 qD:FuncData
 iE:Addr
 lA:FuncData
 jy:Addr
 ny:FuncData
 mZ:Addr
 rf:FuncData
 kd:Addr
 pF:FuncData
 kz:Addr
 pM:FuncData
 iI:Addr
 kZ:FuncData
 fh:Addr
 i3:FuncData
 jl:Addr
 mH:FuncData
 ke:Addr
 n4:FuncData
 jr:Addr
 nh:FuncData
 kG:Addr
 pL:FuncData
 ki:Addr
 pD:FuncData
 jx:Addr
 nu:FuncData
 d2:Addr
 gB:FuncData
 iJ:Addr
 kI:FuncData
 kD:Addr
 pO:FuncData
 cW:Addr
 en:FuncData
 eN:Addr
 ip:FuncData
 fo:Addr
 jf:FuncData
 eu:Addr
 hW:FuncData
 fe:Addr
 je:FuncData
 gv:Addr
 jI:FuncData
 iq:Addr
 k5:FuncData
 jq:Addr
 ni:FuncData
 gg:Addr
 jN:FuncData
 jm:Addr
 mE:FuncData
 d0:Addr
 gA:FuncData
 Ib:Addr
 Kv:FuncData
 Ah:Tok
 Ju:Addr
structure Txt(K:PySem.W.Frag)(mg:Str->Option Value)(t:Adr):Prop where
 Gh:Fun K "is_whole" "is_whole" hZ t.mL t.rA
 rq:mg "is_whole"=some (.ref t.mL)
 rM:keepIn K (.ref t.mL)=true
 qW:Binds K t.rA ["thing"] []
 uG:Fun K "common_divisor" "common_divisor" cJ t.eE t.hV
 md:mg "common_divisor"=some (.ref t.eE)
 mw:keepIn K (.ref t.eE)=true
 lS:Binds K t.hV ["a","b"] []
 Eh:Fun K "is_number" "is_number" fT t.kf t.oo
 oK:mg "is_number"=some (.ref t.kf)
 oO:keepIn K (.ref t.kf)=true
 oN:Binds K t.oo ["thing"] []
 vq:Fun K "divisor_of_all" "divisor_of_all" cE t.eP t.hX
 lN:mg "divisor_of_all"=some (.ref t.eP)
 mh:keepIn K (.ref t.eP)=true
 ma:Binds K t.hX ["a","b","c"] []
 MB:Fun K "number" "number" mj t.rZ t.yj
 Ff:mg "number"=some (.ref t.rZ)
 Dz:keepIn K (.ref t.rZ)=true
 EY:Binds K t.yj ["a","b","c"] []
 Pq:Fun K "plus" "plus" vf t.Cz t.G0
 JY:mg "plus"=some (.ref t.Cz)
 L8:keepIn K (.ref t.Cz)=true
 LZ:Binds K t.G0 ["x","y"] []
 PX:Fun K "less" "less" vG t.C4 t.Gi
 Cy:mg "less"=some (.ref t.C4)
 Ck:keepIn K (.ref t.C4)=true
 BJ:Binds K t.Gi ["x","y"] []
 Jd:Fun K "sign_of" "sign_of" jB t.pR t.uD
 vA:mg "sign_of"=some (.ref t.pR)
 vm:keepIn K (.ref t.pR)=true
 vz:Binds K t.uD ["d","x"] []
 wJ:Fun K "sign_of_parts" "sign_of_parts" cT t.fc t.jg
 nF:mg "sign_of_parts"=some (.ref t.fc)
 nP:keepIn K (.ref t.fc)=true
 nJ:Binds K t.jg ["d","a","b"] []
 GH:Fun K "is_above" "is_above" g0 t.mY t.qO
 Gr:mg "is_above"=some (.ref t.mY)
 Gm:keepIn K (.ref t.mY)=true
 GI:Binds K t.qO ["d","x","y"] []
 sM:Fun K "is_above_nought" "is_above_nought" cj t.dX t.gI
 dU:mg "is_above_nought"=some (.ref t.dX)
 dY:keepIn K (.ref t.dX)=true
 dW:Binds K t.gI ["d","thing"] []
 Jg:Fun K "is_tile" "is_tile" jD t.pW t.vc
 I0:mg "is_tile"=some (.ref t.pW)
 Jk:keepIn K (.ref t.pW)=true
 JE:Binds K t.vc ["d","thing"] []
 G2:Fun K "has_form" "has_form" gW t.mO t.qH
 G1:mg "has_form"=some (.ref t.mO)
 GO:keepIn K (.ref t.mO)=true
 GU:Binds K t.qH ["d","thing"] []
 EB:Fun K "bounds_of" "bounds_of" fN t.kg t.oF
 EC:mg "bounds_of"=some (.ref t.kg)
 Fi:keepIn K (.ref t.kg)=true
 Fw:Binds K t.oF ["tile"] []
 zA:Fun K "place_among" "place_among" dQ t.iK t.k8
 Ai:mg "place_among"=some (.ref t.iK)
 AF:keepIn K (.ref t.iK)=true
 Ax:Binds K t.k8 ["d","marks","x"] []
 yz:Fun K "rising_marks" "rising_marks" di t.gn t.j1
 oj:mg "rising_marks"=some (.ref t.gn)
 pI:keepIn K (.ref t.gn)=true
 oD:Binds K t.j1 ["d","found"] []
 yc:Fun K "reaches_just" "reaches_just" df t.gz t.jL
 oQ:mg "reaches_just"=some (.ref t.gz)
 oW:keepIn K (.ref t.gz)=true
 pG:Binds K t.jL ["marks","end"] []
 zE:Fun K "covers_once" "covers_once" dM t.iz t.kJ
 zI:mg "covers_once"=some (.ref t.iz)
 zW:keepIn K (.ref t.iz)=true
 AE:Binds K t.kJ ["bounds","across","upward"] []
 EH:Fun K "is_laying" "is_laying" fV t.j8 t.pH
 Fd:mg "is_laying"=some (.ref t.j8)
 DM:keepIn K (.ref t.j8)=true
 Ew:Binds K t.pH ["d","thing"] []
 vk:Fun K "must_be_laying" "must_be_laying" cC t.eJ t.ik
 lU:mg "must_be_laying"=some (.ref t.eJ)
 lE:keepIn K (.ref t.eJ)=true
 lT:Binds K t.ik ["d","thing"] []
 L9:Fun K "turned" "turned" lF t.sC t.ym
 x6:mg "turned"=some (.ref t.sC)
 xT:keepIn K (.ref t.sC)=true
 yQ:Binds K t.ym ["d","laying"] []
 zS:Fun K "turned_tile" "turned_tile" dG t.iA t.kY
 Aw:mg "turned_tile"=some (.ref t.iA)
 Av:keepIn K (.ref t.iA)=true
 As:Binds K t.kY ["floor_height","tile"] []
 Gs:Fun K "mirrored" "mirrored" gX t.mD t.rC
 rm:mg "mirrored"=some (.ref t.mD)
 rh:keepIn K (.ref t.mD)=true
 rp:Binds K t.rC ["d","laying"] []
 wO:Fun K "mirrored_tile" "mirrored_tile" cQ t.fj t.i4
 wD:mg "mirrored_tile"=some (.ref t.fj)
 wR:keepIn K (.ref t.fj)=true
 wq:Binds K t.i4 ["floor_width","tile"] []
 Dw:Fun K "_law_less" "_law_less" fU t.kr t.pj
 fI:mg "_law_less"=some (.ref t.kr)
 fO:keepIn K (.ref t.kr)=true
 fJ:Binds K t.pj ["_law_x","_law_y"] []
 EG:Fun K "_law_plus" "_law_plus" fY t.ka t.nW
 iT:mg "_law_plus"=some (.ref t.ka)
 iR:keepIn K (.ref t.ka)=true
 iW:Binds K t.nW ["_law_x","_law_y"] []
 GL:Fun K "_law_low" "_law_low" il t.mI t.qD
 rJ:mg "_law_low"=some (.ref t.mI)
 qG:keepIn K (.ref t.mI)=true
 rB:Binds K t.qD ["_law_a","_law_b","_law_c"] []
 zK:Fun K "_law_shared" "_law_shared" dJ t.iE t.lA
 iu:mg "_law_shared"=some (.ref t.iE)
 ix:keepIn K (.ref t.iE)=true
 iC:Binds K t.lA ["_law_one","_law_other"] []
 C6:Fun K "_law_minus" "_law_minus" eI t.jy t.ny
 mS:mg "_law_minus"=some (.ref t.jy)
 mV:keepIn K (.ref t.jy)=true
 nD:Binds K t.ny ["_law_x"] []
 Hi:Fun K "_law_bag" "_law_bag" hU t.mZ t.rf
 Gx:mg "_law_bag"=some (.ref t.mZ)
 GJ:keepIn K (.ref t.mZ)=true
 FE:Binds K t.rf ["_law_script","_law_at"] []
 Fu:Fun K "_law_root" "_law_root" fR t.kd t.pF
 EJ:mg "_law_root"=some (.ref t.kd)
 E7:keepIn K (.ref t.kd)=true
 Eo:Binds K t.pF ["_law_bag_here"] []
 Fn:Fun K "_law_take" "_law_take" fS t.kz t.pM
 aQ:mg "_law_take"=some (.ref t.kz)
 aP:keepIn K (.ref t.kz)=true
 aO:Binds K t.pM ["_law_bag_here","_law_many"] []
 zr:Fun K "_law_laying" "_law_laying" dH t.iI t.kZ
 Ab:mg "_law_laying"=some (.ref t.iI)
 zX:keepIn K (.ref t.iI)=true
 zT:Binds K t.kZ ["_law_bag_here","_law_d"] []
 we:Fun K "_law_pinwheel" "_law_pinwheel" cU t.fh t.i3
 wo:mg "_law_pinwheel"=some (.ref t.fh)
 wm:keepIn K (.ref t.fh)=true
 wz:Binds K t.i3 ["_law_bag_here"] []
 BP:Fun K "_law_floor" "_law_floor" eA t.jl t.mH
 ur:mg "_law_floor"=some (.ref t.jl)
 ue:keepIn K (.ref t.jl)=true
 tq:Binds K t.mH ["_law_bag_here","_law_d","_law_columns","_law_rows","_law_blocks_here"] []
 Em:Fun K "_law_ends" "_law_ends" fM t.ke t.n4
 vM:mg "_law_ends"=some (.ref t.ke)
 vL:keepIn K (.ref t.ke)=true
 vK:Binds K t.n4 ["_law_sides_here"] []
 C3:Fun K "_law_sides" "_law_sides" eC t.jr t.nh
 tE:mg "_law_sides"=some (.ref t.jr)
 sJ:keepIn K (.ref t.jr)=true
 tV:Binds K t.nh ["_law_bag_here","_law_d","_law_many"] []
 Fo:Fun K "_law_side" "_law_side" fH t.kG t.pL
 vP:mg "_law_side"=some (.ref t.kG)
 vQ:keepIn K (.ref t.kG)=true
 vZ:Binds K t.pL ["_law_bag_here","_law_d","_law_way"] []
 DQ:Fun K "_law_sign" "_law_sign" fX t.ki t.pD
 iU:mg "_law_sign"=some (.ref t.ki)
 iS:keepIn K (.ref t.ki)=true
 iO:Binds K t.pD ["_law_d","_law_x"] []
 CF:Fun K "_law_mixed" "_law_mixed" eK t.jx t.nu
 By:mg "_law_mixed"=some (.ref t.jx)
 CV:keepIn K (.ref t.jx)=true
 Dn:Binds K t.nu ["_law_bag_here","_law_row"] []
 rO:Fun K "_law_many_cells" "_law_many_cells" cg t.d2 t.gB
 sf:mg "_law_many_cells"=some (.ref t.d2)
 sj:keepIn K (.ref t.d2)=true
 su:Binds K t.gB ["_law_bag_here"] []
 AI:Fun K "_law_blocks" "_law_blocks" dI t.iJ t.kI
 AA:mg "_law_blocks"=some (.ref t.iJ)
 AG:keepIn K (.ref t.iJ)=true
 zQ:Binds K t.kI ["_law_bag_here","_law_columns","_law_rows"] []
 E3:Fun K "_law_room" "_law_room" fW t.kD t.pO
 E5:mg "_law_room"=some (.ref t.kD)
 DC:keepIn K (.ref t.kD)=true
 Fv:Binds K t.pO ["_law_met","_law_column","_law_row","_law_columns"] []
 n5:Fun K "_law_turned_laying" "_law_turned_laying" bG t.cW t.en
 n9:mg "_law_turned_laying"=some (.ref t.cW)
 oM:keepIn K (.ref t.cW)=true
 pB:Binds K t.en ["_law_laying_here"] []
 vh:Fun K "_law_is_laying" "_law_is_laying" cI t.eN t.ip
 lW:mg "_law_is_laying"=some (.ref t.eN)
 lZ:keepIn K (.ref t.eN)=true
 lM:Binds K t.ip ["_law_d","_law_thing"] []
 wL:Fun K "_law_is_above" "_law_is_above" cP t.fo t.jf
 fg:mg "_law_is_above"=some (.ref t.fo)
 fk:keepIn K (.ref t.fo)=true
 ff:Binds K t.jf ["_law_d","_law_thing"] []
 uQ:Fun K "_law_is_number" "_law_is_number" cD t.eu t.hW
 lO:mg "_law_is_number"=some (.ref t.eu)
 mz:keepIn K (.ref t.eu)=true
 lP:Binds K t.hW ["_law_thing"] []
 wM:Fun K "_law_is_whole" "_law_is_whole" cR t.fe t.je
 wC:mg "_law_is_whole"=some (.ref t.fe)
 wV:keepIn K (.ref t.fe)=true
 wF:Binds K t.je ["_law_thing"] []
 zk:Fun K "_law_is_tile" "_law_is_tile" dg t.gv t.jI
 yI:mg "_law_is_tile"=some (.ref t.gv)
 zc:keepIn K (.ref t.gv)=true
 yG:Binds K t.jI ["_law_d","_law_thing"] []
 zY:Fun K "_law_covers" "_law_covers" dR t.iq t.k5
 zH:mg "_law_covers"=some (.ref t.iq)
 Aj:keepIn K (.ref t.iq)=true
 Af:Binds K t.k5 ["_law_d","_law_width","_law_height","_law_tiles"] []
 CM:Fun K "_law_spans" "_law_spans" eG t.jq t.ni
 tT:mg "_law_spans"=some (.ref t.jq)
 sA:keepIn K (.ref t.jq)=true
 sY:Binds K t.ni ["_law_d","_law_ends_here","_law_most"] []
 zd:Fun K "_law_ordered" "_law_ordered" dj t.gg t.jN
 za:mg "_law_ordered"=some (.ref t.gg)
 yJ:keepIn K (.ref t.gg)=true
 yA:Binds K t.jN ["_law_d","_law_row"] []
 CO:Fun K "_law_below" "_law_below" eO t.jm t.mE
 Ce:mg "_law_below"=some (.ref t.jm)
 BM:keepIn K (.ref t.jm)=true
 C0:Binds K t.mE ["_law_d","_law_x","_law_y"] []
 sL:Fun K "_law_left_right" "_law_left_right" bZ t.d0 t.gA
 ua:mg "_law_left_right"=some (.ref t.d0)
 sZ:keepIn K (.ref t.d0)=true
 tJ:Binds K t.gA ["_law_laying_here"] []
 QX:Fun K "law" "law" qu t.Ib t.Kv
 Su:mg "law"=some (.ref t.Ib)
 Sw:keepIn K (.ref t.Ib)=true
 Ss:Binds K t.Kv ["_law_script"] []
 bF:mg "isinstance"=none
 yO:mg "int"=none
 Km:mg "bool"=none
 DX:mg "abs"=none
 eD:mg "tuple"=none
 eZ:mg "len"=none
 HR:mg "all"=none
 RI:mg "set"=none
 gu:mg "range"=none
 n6:mg "enumerate"=none
 Ov:mg "list"=none
 LB:mg "min"=none
 QR:mg "zip"=none
 RN:mg "max"=none
 Bu:mg "MOST_TILES"=some (.int 60 t.Ah)
 Lj:Q6 K mg "NOUGHT" t.Ju 0 0 1
structure EQ where
 P:Program
 w:World
 K:PySem.W.Frag
 mg:Str->Option Value
 base:Heap
 t:Adr
noncomputable abbrev TX(e:EQ):Prop:=Txt e.K e.mg e.t
noncomputable abbrev vS(e:EQ):Prop:=br e.P e.w e.K e.mg e.base CX0 1 e.t.mL e.t.rA ["thing"] (spD e.K jv)
noncomputable abbrev kb(e:EQ):Prop:=br e.P e.w e.K e.mg e.base CX0 1 e.t.eE e.t.hV ["a","b"] (spD e.K n8)
noncomputable abbrev nB(e:EQ):Prop:=br e.P e.w e.K e.mg e.base CX0 3 e.t.kf e.t.oo ["thing"] (spD e.K kS)
noncomputable abbrev gD(e:EQ):Prop:=br e.P e.w e.K e.mg e.base CX0 2 e.t.eP e.t.hX ["a","b","c"] (spD e.K xJ)
noncomputable abbrev va(e:EQ):Prop:=br e.P e.w e.K e.mg e.base CX0 3 e.t.rZ e.t.yj ["a","b","c"] (spD e.K eW)
noncomputable abbrev HD(e:EQ):Prop:=br e.P e.w e.K e.mg e.base CX0 4 e.t.Cz e.t.G0 ["x","y"] (spD e.K iZ)
noncomputable abbrev BH(e:EQ):Prop:=br e.P e.w e.K e.mg e.base CX0 4 e.t.C4 e.t.Gi ["x","y"] (spD e.K fE)
noncomputable abbrev rG(e:EQ):Prop:=br e.P e.w e.K e.mg e.base CX0 2 e.t.pR e.t.uD ["d","x"] (spD e.K hJ)
noncomputable abbrev ic(e:EQ):Prop:=br e.P e.w e.K e.mg e.base CX0 1 e.t.fc e.t.jg ["d","a","b"] (spD e.K uq)
noncomputable abbrev vU(e:EQ):Prop:=br e.P e.w e.K e.mg e.base CX0 2 e.t.mY e.t.qO ["d","x","y"] (spD e.K w6)
noncomputable abbrev fq(e:EQ):Prop:=br e.P e.w e.K e.mg e.base CX0 4 e.t.dX e.t.gI ["d","thing"] (spD e.K dq)
noncomputable abbrev yY(e:EQ):Prop:=br e.P e.w e.K e.mg e.base CX0 5 e.t.pW e.t.vc ["d","thing"] (spD e.K qU)
noncomputable abbrev vT(e:EQ):Prop:=br e.P e.w e.K e.mg e.base CX0 6 e.t.mO e.t.qH ["d","thing"] (spD e.K xg)
noncomputable abbrev sO(e:EQ):Prop:=br e.P e.w e.K e.mg e.base CX0 5 e.t.kg e.t.oF ["tile"] (spD e.K pV)
noncomputable abbrev o8(e:EQ):Prop:=br e.P e.w e.K e.mg e.base CX0 3 e.t.iK e.t.k8 ["d","marks","x"] (spD e.K tR)
noncomputable abbrev nI(e:EQ):Prop:=br e.P e.w e.K e.mg e.base CX0 4 e.t.gn e.t.j1 ["d","found"] (spD e.K qe)
noncomputable abbrev nG(e:EQ):Prop:=br e.P e.w e.K e.mg e.base CX0 1 e.t.gz e.t.jL ["marks","end"] (spD e.K tQ)
noncomputable abbrev oJ(e:EQ):Prop:=br e.P e.w e.K e.mg e.base CX0 1 e.t.iz e.t.kJ ["bounds","across","upward"] (spD e.K zh)
noncomputable abbrev rT(e:EQ):Prop:=br e.P e.w e.K e.mg e.base CX0 7 e.t.j8 e.t.pH ["d","thing"] (spD e.K tM)
noncomputable abbrev gh(e:EQ):Prop:=br e.P e.w e.K e.mg e.base CX0 8 e.t.eJ e.t.ik ["d","thing"] (spD e.K lQ)
noncomputable abbrev AQ(e:EQ):Prop:=br e.P e.w e.K e.mg e.base CX0 9 e.t.sC e.t.ym ["d","laying"] (spD e.K mr)
noncomputable abbrev ou(e:EQ):Prop:=br e.P e.w e.K e.mg e.base CX0 5 e.t.iA e.t.kY ["floor_height","tile"] (spD e.K xa)
noncomputable abbrev vI(e:EQ):Prop:=br e.P e.w e.K e.mg e.base CX0 9 e.t.mD e.t.rC ["d","laying"] (spD e.K gZ)
noncomputable abbrev lV(e:EQ):Prop:=br e.P e.w e.K e.mg e.base CX0 5 e.t.fj e.t.i4 ["floor_width","tile"] (spD e.K Cs)
noncomputable abbrev ju(e:EQ):Prop:=br e.P e.w e.K e.mg e.base CX0 4 e.t.kr e.t.pj ["_law_x","_law_y"] (spD e.K fE)
noncomputable abbrev gJ(e:EQ):Prop:=br e.P e.w e.K e.mg e.base CX0 3 e.t.ka e.t.nW ["_law_x","_law_y"] (spD e.K iZ)
noncomputable abbrev ph(e:EQ):Prop:=br e.P e.w e.K e.mg e.base CX0 2 e.t.mI e.t.qD ["_law_a","_law_b","_law_c"] (spD e.K eW)
noncomputable abbrev jS(e:EQ):Prop:=br e.P e.w e.K e.mg e.base CX0 1 e.t.iE e.t.lA ["_law_one","_law_other"] (spD e.K n8)
noncomputable abbrev ir(e:EQ):Prop:=br e.P e.w e.K e.mg e.base CX0 1 e.t.jy e.t.ny ["_law_x"] (spD e.K p5)
noncomputable abbrev vY(e:EQ):Prop:=br e.P e.w e.K e.mg e.base CX0 1 e.t.mZ e.t.rf ["_law_script","_law_at"] (spD e.K Il)
noncomputable abbrev uo(e:EQ):Prop:=br e.P e.w e.K e.mg e.base CX0 2 e.t.kd e.t.pF ["_law_bag_here"] (spD e.K w5)
noncomputable abbrev cq(e:EQ):Prop:=br e.P e.w e.K e.mg e.base CX0 1 e.t.kz e.t.pM ["_law_bag_here","_law_many"] (spD e.K nk)
noncomputable abbrev oA(e:EQ):Prop:=br e.P e.w e.K e.mg e.base CX0 6 e.t.iI e.t.kZ ["_law_bag_here","_law_d"] (spD e.K pS)
noncomputable abbrev lB(e:EQ):Prop:=br e.P e.w e.K e.mg e.base CX0 2 e.t.fh e.t.i3 ["_law_bag_here"] (spD e.K ng)
noncomputable abbrev qp(e:EQ):Prop:=br e.P e.w e.K e.mg e.base CX0 5 e.t.jl e.t.mH ["_law_bag_here","_law_d","_law_columns","_law_rows","_law_blocks_here"] (spD e.K o6)
noncomputable abbrev rX(e:EQ):Prop:=br e.P e.w e.K e.mg e.base CX0 4 e.t.ke e.t.n4 ["_law_sides_here"] (spD e.K CJ)
noncomputable abbrev qw(e:EQ):Prop:=br e.P e.w e.K e.mg e.base CX0 4 e.t.jr e.t.nh ["_law_bag_here","_law_d","_law_many"] (spD e.K sP)
noncomputable abbrev sD(e:EQ):Prop:=br e.P e.w e.K e.mg e.base CX0 3 e.t.kG e.t.pL ["_law_bag_here","_law_d","_law_way"] (spD e.K tI)
noncomputable abbrev gi(e:EQ):Prop:=br e.P e.w e.K e.mg e.base CX0 1 e.t.ki e.t.pD ["_law_d","_law_x"] (spD e.K hJ)
noncomputable abbrev qq(e:EQ):Prop:=br e.P e.w e.K e.mg e.base CX0 2 e.t.jx e.t.nu ["_law_bag_here","_law_row"] (spD e.K sN)
noncomputable abbrev jO(e:EQ):Prop:=br e.P e.w e.K e.mg e.base CX0 2 e.t.d2 e.t.gB ["_law_bag_here"] (spD e.K xc)
noncomputable abbrev pC(e:EQ):Prop:=br e.P e.w e.K e.mg e.base CX0 2 e.t.iJ e.t.kI ["_law_bag_here","_law_columns","_law_rows"] (spD e.K zi)
noncomputable abbrev tw(e:EQ):Prop:=br e.P e.w e.K e.mg e.base CX0 1 e.t.kD e.t.pO ["_law_met","_law_column","_law_row","_law_columns"] (spD e.K Dg)
noncomputable abbrev gQ(e:EQ):Prop:=br e.P e.w e.K e.mg e.base CX0 5 e.t.cW e.t.en ["_law_laying_here"] (spD e.K qg)
noncomputable abbrev kq(e:EQ):Prop:=br e.P e.w e.K e.mg e.base CX0 8 e.t.eN e.t.ip ["_law_d","_law_thing"] (spD e.K lJ)
noncomputable abbrev hE(e:EQ):Prop:=br e.P e.w e.K e.mg e.base CX0 3 e.t.fo e.t.jf ["_law_d","_law_thing"] (spD e.K dq)
noncomputable abbrev gw(e:EQ):Prop:=br e.P e.w e.K e.mg e.base CX0 2 e.t.eu e.t.hW ["_law_thing"] (spD e.K kS)
noncomputable abbrev lD(e:EQ):Prop:=br e.P e.w e.K e.mg e.base CX0 1 e.t.fe e.t.je ["_law_thing"] (spD e.K jv)
noncomputable abbrev nH(e:EQ):Prop:=br e.P e.w e.K e.mg e.base CX0 4 e.t.gv e.t.jI ["_law_d","_law_thing"] (spD e.K qU)
noncomputable abbrev pq(e:EQ):Prop:=br e.P e.w e.K e.mg e.base CX0 7 e.t.iq e.t.k5 ["_law_d","_law_width","_law_height","_law_tiles"] (spD e.K vi)
noncomputable abbrev qv(e:EQ):Prop:=br e.P e.w e.K e.mg e.base CX0 6 e.t.jq e.t.ni ["_law_d","_law_ends_here","_law_most"] (spD e.K xb)
noncomputable abbrev nM(e:EQ):Prop:=br e.P e.w e.K e.mg e.base CX0 5 e.t.gg e.t.jN ["_law_d","_law_row"] (spD e.K uF)
noncomputable abbrev qy(e:EQ):Prop:=br e.P e.w e.K e.mg e.base CX0 4 e.t.jm e.t.mE ["_law_d","_law_x","_law_y"] (spD e.K w9)
noncomputable abbrev jR(e:EQ):Prop:=br e.P e.w e.K e.mg e.base CX0 5 e.t.d0 e.t.gA ["_law_laying_here"] (spD e.K xf)
noncomputable abbrev L4(e:EQ):Prop:=br e.P e.w e.K e.mg e.base CX0 10 e.t.Ib e.t.Kv ["_law_script"] (spD e.K x8)
section
variable {e:EQ}
theorem Eu:aH ["thing"] ["thing"] (ay hZ):=by walk_at "s"
theorem Dy(T:TX e):vS e:=by
 have S:=Eu
 exact T.Gh.okD S (fun ds Z Q h=>vW h) (fun cdv A outer s H E hr=>⟨kC,(ar (aC (ja (jh (HW _) rfl T.bF rfl T.yO PyProof.Rows.Boot.«int» (dv 0)) (jV (Lr (jh (Fe _) rfl T.bF rfl T.Km PyProof.Rows.Boot.«bool» (dv 0))))))),fun ds Z Qd h=>vJ h⟩)
theorem sS:aH ["a","b"] ["a","b"] (ay cJ):=by walk_at "s"
theorem tX(T:TX e):kb e:=by
 have S:=sS
 exact T.uG.okD S (fun ds Z Q h=>Bm h) (fun cdv A outer s H E hr=>⟨gM,(ak (oG PassesOwn.never (aN (eo hr.units) bq (dv 1) ai (aI _)) (ar (qM (i:=0) (j:=1) rfl S.nd rfl rfl ⋯ rfl rfl (ae (dv 1) (ae (k6 (dv 0) (dv 1)) aj)) rfl)))
  (ar (aC (xw rfl T.DX (ae (dv 0) aj))))),fun ds Z Qd h=>ub h⟩)
theorem uY:aH ["d","a","b","prevailing"] ["d","a","b"] (ay cT):=by walk_at "s"
theorem uZ(T:TX e):ic e:=by
 have S:=uY
 exact T.wJ.okD S (fun ds Z Q h=>Ez h) (fun cdv A outer s H E hr=>⟨ia,(ak (bB (DW.dt (CT (aN (cZ hr.units) bq (dv 1) ai (aI _)) (xi (aN (cZ hr.units) bq (dv 2) ai (aI _))))) (ar (aC ai)) aU)
  (ak (bB (DW.dt (CT (aN D8 ej (dv 1) ai (aI _)) (xi (aN D8 ej (dv 2) ai (aI _))))) (ar (aC ai)) aU)
  (ak (bB (DW.dt (CT (aN ID ej (dv 1) ai (aI _)) (xi (aN ID ej (dv 2) ai (aI _))))) (ar (aC (ij ai))) aU)
  (ak (aW (i:=3) S.nd rfl (Or.inl rfl) (EF (aN nK ej (bz (dv 1) (dv 1)) (bz (bz (dv 0) (dv 2)) (dv 2)) (aI _)) (dv 1) (dv 2)))
  (ar (aC (EF (aN nK ej (dv 3) ai (aI _)) ai (ij ai)))))))),fun ds Z Qd h=>vw h⟩)
theorem wb:aH ["marks","end"] ["marks","end"] (ay df):=by walk_at "s"
theorem wj(T:TX e):nG e:=by
 have S:=wb
 exact T.yc.okD S (fun ds Z Q h=>ER h) (fun cdv A outer s H E hr=>⟨jc,(ar (aC (ja (d9 (cZ hr.units) bq (aF (dv 0) ai) (Ld rfl T.Lj) (aI _)) (jV (d9 (cZ hr.units) bq (aF (dv 0) (ij ai)) (dv 1) (aI _)))))),fun ds Z Qd h=>wd h⟩)
theorem xV:aH ["bounds","across","upward","columns","rows","covered","left","right","bottom","top","column","row"] ["bounds","across","upward"] (ay dM):=by walk_at "s"
theorem xF(T:TX e):oJ e:=by
 have S:=xV
 exact uL (T.zE.okD S (fun ds Z Q h=>Aq h) (fun cdv A outer s H E hr=>⟨jK,(ak (Hz (i:=3) (N':=["at","x"]) (cap:=[none,none]) S.nd rfl rfl rfl hr.units (Dj rfl T.n6 (ae (dv 1) aj)) (fun _ _ _=>(bE (n:=2) rfl (av (au (i:=0) (show List.Nodup (["at","x"]:List Str) by decide +kernel) rfl (Or.inl rfl)) (av (au (i:=1) (show List.Nodup (["at","x"]:List Str) by decide +kernel) rfl (Or.inl rfl)) bg)))) (fun _ _ _=>bV) (fun _ _ _=>(dv 1)) (fun _ _ _=>(dv 0)) rfl nofun rfl nofun (by walk_at "cl") (dh rfl) rfl (cN trivial))
  (ak (Hz (i:=4) (N':=["at","y"]) (cap:=[none,none]) S.nd rfl rfl rfl hr.units (Dj rfl T.n6 (ae (dv 2) aj)) (fun _ _ _=>(bE (n:=2) rfl (av (au (i:=0) (show List.Nodup (["at","y"]:List Str) by decide +kernel) rfl (Or.inl rfl)) (av (au (i:=1) (show List.Nodup (["at","y"]:List Str) by decide +kernel) rfl (Or.inl rfl)) bg)))) (fun _ _ _=>bV) (fun _ _ _=>(dv 1)) (fun _ _ _=>(dv 0)) rfl nofun rfl nofun (by walk_at "cl") (dh rfl) rfl (cN trivial))
  (ak (aW (i:=5) S.nd rfl (Or.inl rfl) (JU rfl T.RI))
  (ak (eS PassesOwn.never rfl (iD (dv 0)) (bE (n:=4) rfl (av (au (i:=6) S.nd rfl (Or.inl rfl)) (av (au (i:=7) S.nd rfl (Or.inl rfl)) (av (au (i:=8) S.nd rfl (Or.inl rfl)) (av (au (i:=9) S.nd rfl (Or.inl rfl)) bg))))) (ar (eS PassesOwn.never rfl (rP rfl T.gu (ae (uJ hr.units (dv 3) (dv 6)) (ae (uJ hr.units (dv 3) (dv 7)) aj))) (au (i:=10) S.nd rfl (Or.inl rfl)) (ar (eS PassesOwn.never rfl (rP rfl T.gu (ae (uJ hr.units (dv 4) (dv 8)) (ae (uJ hr.units (dv 4) (dv 9)) aj))) (au (i:=11) S.nd rfl (Or.inl rfl)) (ak (bB (Lx hr.units (aX (ae (dv 10) (ae (dv 11) aj))) (dv 5) (by with_unfolding_all rfl)) (ar (aC d8)) aU)
  (ar (iG (MG hr.units (dv 5) (aX (ae (dv 10) (ae (dv 11) aj))))))))))))
  (ar (aC (d9 (cZ hr.units) bq (HV rfl T.eZ (ae (dv 5) aj)) (bz (eT (dD rfl T.eZ (ae (dv 1) aj)) ai) (eT (dD rfl T.eZ (ae (dv 2) aj)) ai)) (aI _)))))))),fun ds Z Qd h=>xn h⟩)) (fun ds Z Qd h=>wK h)
theorem xX:aH ["_law_one","_law_other"] ["_law_one","_law_other"] (ay dJ):=by walk_at "s"
theorem zj(T:TX e):jS e:=by
 have S:=xX
 exact T.zK.okD S (fun ds Z Q h=>Bm h) (fun cdv A outer s H E hr=>⟨j4,(ak (qM (i:=0) (j:=1) rfl S.nd rfl rfl ⋯ rfl rfl (ae (xw rfl T.DX (ae (dv 0) aj)) (ae (xw rfl T.DX (ae (dv 1) aj)) aj)) rfl)
  (ak (oG PassesOwn.never (aN nK ej (dv 1) ai (aI _)) (ar (qM (i:=0) (j:=1) rfl S.nd rfl rfl ⋯ rfl rfl (ae (dv 1) (ae (k6 (dv 0) (dv 1)) aj)) rfl)))
  (ar (aC (dv 0))))),fun ds Z Qd h=>xS h⟩)
theorem AJ:aH ["_law_x"] ["_law_x"] (ay eI):=by walk_at "s"
theorem zJ(T:TX e):ir e:=by
 have S:=AJ
 exact T.C6.okD S (fun ds Z Q h=>Fy h) (fun cdv A outer s H E hr=>⟨kM,(ar (aC (aX (ae (eT ai (aF (dv 0) ai)) (ae (eT ai (aF (dv 0) ai)) (ae (aF (dv 0) ai) aj)))))),fun ds Z Qd h=>Ao h⟩)
theorem DY:aH ["_law_script","_law_at","_law_cell","_law_great","_law_primes","_law_mixed_here"] ["_law_script","_law_at"] (ay hU):=by walk_at "s"
theorem EO(T:TX e):vY e:=by
 have S:=DY
 exact T.Hi.okD S (fun ds Z Q h=>Je h) (fun cdv A outer s H E hr=>⟨nY,(ak (aW (i:=2) S.nd rfl (Or.inl rfl) ai)
  (ak (bB (aN ku ej (dv 1) (dD rfl T.eZ (ae (dv 0) aj)) (aI _)) (ar (aW (i:=2) S.nd rfl (Or.inl rfl) (aF (dv 0) (dv 1)))) aU)
  (ak (aW (i:=3) S.nd rfl (Or.inl rfl) ai)
  (ak (bB (aN D8 ej (xw rfl T.DX (ae (dv 2) aj)) (Ms ai ai) (aI _)) (ar (aW (i:=3) S.nd rfl (Or.inl rfl) (xw rfl T.DX (ae (dv 2) aj)))) aU)
  (ak (aW (i:=4) S.nd rfl (Or.inl rfl) (kO (ae ai (ae ai (ae ai (ae ai (ae ai (ae ai (ae ai (ae ai aj))))))))))
  (ak (aW (i:=5) S.nd rfl (Or.inl rfl) (bj (bj (bj (bz (k6 (dv 2) ai) ai) (bz (bz ai (dv 1)) (dv 1))) (bz ai (dv 1))) ai))
  (ar (aC (km (ae (dv 3) (ae (k6 (dv 5) (aF (dv 4) (k6 (dv 1) ai))) aj))))))))))),fun ds Z Qd h=>Ep h⟩)
theorem Dk:aH ["_law_bag_here","_law_many","_law_digit"] ["_law_bag_here","_law_many"] (ay fS):=by walk_at "s"
theorem BQ(T:TX e):cq e:=by
 have S:=Dk
 exact T.Fn.okD S (fun ds Z Q h=>Ey h) (fun cdv A outer s H E hr=>⟨ll,(ak (bB (aN nK ej (aF (dv 0) ai) ai (aI _)) (ak (aW (i:=2) S.nd rfl (Or.inl rfl) (k6 (aF (dv 0) ai) (dv 1)))
  (ak (dz (jT (aF (dv 0) ai) (dv 1)) (J1 (dv 0) ai))
  (ar (aC (dv 2))))) aU)
  (ak (dz (k6 (bj (bz (aF (dv 0) ai) ai) ai) ai) (J1 (dv 0) ai))
  (ar (aC (k6 (jT (k6 (Ms (aF (dv 0) ai) ai) ai) ai) (dv 1)))))),fun ds Z Qd h=>zF h⟩)
theorem Bz:aH ["_law_d","_law_x","_law_first","_law_second","_law_sides_here"] ["_law_d","_law_x"] (ay fX):=by walk_at "s"
theorem CI(T:TX e):gi e:=by
 have S:=Bz
 exact T.DQ.okD S (fun ds Z Q h=>yq h) (fun cdv A outer s H E hr=>⟨nj,(ak (qM (i:=2) (j:=3) rfl S.nd rfl rfl ⋯ rfl rfl (ae (bz (aF (dv 1) ai) (aF (dv 1) ai)) (ae (bz (bz (dv 0) (aF (dv 1) ai)) (aF (dv 1) ai)) aj)) rfl)
  (ak (aW (i:=4) S.nd rfl (Or.inl rfl) (kO (ae (eT (oH rfl T.yO (ae (d9 nK ej (aF (dv 1) ai) ai (aI _)) aj)) (oH rfl T.yO (ae (d9 ku ej (aF (dv 1) ai) ai (aI _)) aj))) (ae (eT (oH rfl T.yO (ae (d9 nK ej (aF (dv 1) ai) ai (aI _)) aj)) (oH rfl T.yO (ae (d9 ku ej (aF (dv 1) ai) ai (aI _)) aj))) aj))))
  (ak (bB (aN D8 ej (bz (aF (dv 4) ai) (aF (dv 4) ai)) ai (aI _)) (ar (aC (EF (aN (eo hr.units) bq (aF (dv 4) ai) ai (aI _)) (aF (dv 4) ai) (aF (dv 4) ai)))) aU)
  (ar (aC (EF (aN nK ej (dv 2) (dv 3) (aI _)) (aF (dv 4) ai) (aF (dv 4) ai))))))),fun ds Z Qd h=>BS h⟩)
theorem C9:aH ["_law_met","_law_column","_law_row","_law_columns","_law_found"] ["_law_met","_law_column","_law_row","_law_columns"] (ay fW):=by walk_at "s"
theorem BE(T:TX e):tw e:=by
 have S:=C9
 exact T.E3.okD S (fun ds Z Q h=>G7 h) (fun cdv A outer s H E hr=>⟨mM,(ak (aW (i:=4) S.nd rfl (Or.inl rfl) ai)
  (ak (oG PassesOwn.never (DW.dt (CT (aN ku ej (bj (dv 1) (dv 4)) (dv 3) (aI _)) (xi (A9 hr.units (aX (ae (bj (dv 1) (dv 4)) (ae (dv 2) aj))) (dv 0) (by with_unfolding_all rfl))))) (ar (aW (i:=4) S.nd rfl (Or.inl rfl) (bj (dv 4) ai))))
  (ar (aC (dv 4))))),fun ds Z Qd h=>Cj h⟩)
theorem uT:aH ["_law_thing"] ["_law_thing"] (ay cR):=by walk_at "s"
theorem vb(T:TX e):lD e:=by
 have S:=uT
 exact T.wM.okD S (fun ds Z Q h=>vW h) (fun cdv A outer s H E hr=>⟨mB,(ar (aC (ja (jh (HW _) rfl T.bF rfl T.yO PyProof.Rows.Boot.«int» (dv 0)) (jV (Lr (jh (Fe _) rfl T.bF rfl T.Km PyProof.Rows.Boot.«bool» (dv 0))))))),fun ds Z Qd h=>vE h⟩)
theorem tO:aH ["a","b","c"] ["a","b","c"] (ay cE):=by walk_at "s"
theorem tN(T:TX e)(eB:kb e):gD e:=by
 have S:=tO
 exact T.vq.okD S (fun ds Z Q h=>FG h) (fun cdv A outer s H E hr=>⟨gG,(ar (aC (aq eB (hr.mono ⋯) rfl T.md T.mw T.lS (ae (aq eB (hr.mono ⋯) rfl T.md T.mw T.lS (ae (dv 2) (ae (dv 0) aj))) (ae (dv 1) aj))))),fun ds Z Qd h=>sR h⟩)
theorem FC:aH ["d","x"] ["d","x"] (ay jB):=by walk_at "s"
theorem Ge(T:TX e)(cS:ic e):rG e:=by
 have S:=FC
 exact T.Jd.okD S (fun ds Z Q h=>yq h) (fun cdv A outer s H E hr=>⟨qI,(ar (aC (aq cS (hr.mono ⋯) rfl T.nF T.nP T.nJ (ae (dv 0) (ae (aF (dv 1) ai) (ae (aF (dv 1) ai) aj)))))),fun ds Z Qd h=>He h⟩)
theorem DU:aH ["d","x","y","a","b"] ["d","x","y"] (ay g0):=by walk_at "s"
theorem EI(T:TX e)(cS:ic e):vU e:=by
 have S:=DU
 exact T.GH.okD S (fun ds Z Q h=>Ej h) (fun cdv A outer s H E hr=>⟨nX,(ak (aW (i:=3) S.nd rfl (Or.inl rfl) (eT (bz (aF (dv 1) ai) (aF (dv 2) ai)) (bz (aF (dv 2) ai) (aF (dv 1) ai))))
  (ak (aW (i:=4) S.nd rfl (Or.inl rfl) (eT (bz (aF (dv 1) ai) (aF (dv 2) ai)) (bz (aF (dv 2) ai) (aF (dv 1) ai))))
  (ar (aC (d9 (cZ hr.units) bq (aq cS (hr.mono ⋯) rfl T.nF T.nP T.nJ (ae (dv 0) (ae (dv 3) (ae (dv 4) aj)))) ai (aI _)))))),fun ds Z Qd h=>DV h⟩)
theorem Fm:aH ["_law_a","_law_b","_law_c","_law_common"] ["_law_a","_law_b","_law_c"] (ay il):=by walk_at "s"
theorem D3(T:TX e)(cA:jS e):ph e:=by
 have S:=Fm
 exact T.GL.okD S (fun ds Z Q h=>sI h) (fun cdv A outer s H E hr=>⟨oB,(ak (aW (i:=3) S.nd rfl (Or.inl rfl) (bz (aq cA (hr.mono ⋯) rfl T.iu T.ix T.iC (ae (aq cA (hr.mono ⋯) rfl T.iu T.ix T.iC (ae (dv 0) (ae (dv 1) aj))) (ae (dv 2) aj))) (aF (kO (ae ai (ae (ij ai) aj))) (oH rfl T.yO (ae (d9 ku ej (dv 2) ai (aI _)) aj)))))
  (ar (aC (aX (ae (jT (dv 0) (dv 3)) (ae (jT (dv 1) (dv 3)) (ae (jT (dv 2) (dv 3)) aj))))))),fun ds Z Qd h=>DO h⟩)
theorem BD:aH ["_law_bag_here","_law_some"] ["_law_bag_here"] (ay fR):=by walk_at "s"
theorem Cw(T:TX e)(aB:cq e):uo e:=by
 have S:=BD
 exact T.Fu.okD S (fun ds Z Q h=>Et h) (fun cdv A outer s H E hr=>⟨mT,(ak (bB (aN (cZ hr.units) bq (aq (bO aB @bp) (hr.mono ⋯) rfl T.aQ T.aP T.aO (ae (dv 0) (ae ai aj))) ai (aI _)) (ar (aC (aF (kO (ae ai (ae ai (ae ai aj)))) (aq (bO aB @bp) (hr.mono ⋯) rfl T.aQ T.aP T.aO (ae (dv 0) (ae ai aj)))))) aU)
  (ak (Cg (i:=1) (N':=["_law_d"]) (cap:=[none]) S.nd rfl rfl rfl (rP rfl T.gu (ae ai (ae ai aj))) (fun _ _ _=>(au (i:=0) (show List.Nodup (["_law_d"]:List Str) by decide +kernel) rfl (Or.inl rfl))) (fun _ _ _=>(Kf (aN (JB hr.units) Pf (dv 0) (kO (ae ai (ae ai (ae ai (ae ai aj))))) (by with_unfolding_all rfl)))) (fun _ _ _=>(dv 0)) rfl nofun rfl nofun (by walk_at "cl") (dh rfl) rfl (cN trivial))
  (ar (aC (aF (dv 1) (aq (bO aB @bp) (hr.mono ⋯) rfl T.aQ T.aP T.aO (ae (dv 0) (ae ai aj)))))))),fun ds Z Qd h=>BN h⟩)
theorem uW:aH ["_law_bag_here","_law_a","_law_b","_law_found"] ["_law_bag_here"] (ay cU):=by walk_at "s"
theorem vg(T:TX e)(aB:cq e):lB e:=by
 have S:=uW
 exact T.we.okD S (fun ds Z Q h=>yk h) (fun cdv A outer s H E hr=>⟨ib,(ak (dz (aX (ae (bj ai (aq (bO aB @bp) (hr.mono ⋯) rfl T.aQ T.aP T.aO (ae (dv 0) (ae ai aj)))) (ae (bj ai (aq (bO aB @bp) (hr.mono ⋯) rfl T.aQ T.aP T.aO (ae (dv 0) (ae ai aj)))) aj))) (bE (n:=2) rfl (av (au (i:=1) S.nd rfl (Or.inr rfl)) (av (au (i:=2) S.nd rfl (Or.inl rfl)) bg))))
  (ak (aW (i:=3) S.nd rfl (Or.inl rfl) (kO (ae (aX (ae ai (ae ai (ae (bj (dv 1) ai) (ae ai aj))))) (ae (aX (ae (bj (dv 1) ai) (ae ai (ae ai (ae (bj (dv 2) ai) aj))))) (ae (aX (ae ai (ae (bj (dv 2) ai) (ae (bj (dv 1) ai) (ae ai aj))))) (ae (aX (ae ai (ae ai (ae ai (ae (bj (dv 2) ai) aj))))) (ae (aX (ae ai (ae ai (ae (dv 1) (ae (dv 2) aj))))) aj)))))))
  (ak (bB (aN (cZ hr.units) bq (aq (bO aB @bp) (hr.mono ⋯) rfl T.aQ T.aP T.aO (ae (dv 0) (ae ai aj))) ai (aI _)) (ar (Cg (i:=3) (N':=["_law_column","_law_row","_law_wide","_law_high","_law_a"]) (cap:=[none,none,none,none,some 1]) S.nd rfl rfl rfl (iD (dv 3)) (fun _ _ _=>(bE (n:=4) rfl (av (au (i:=0) (show List.Nodup (["_law_column","_law_row","_law_wide","_law_high","_law_a"]:List Str) by decide +kernel) rfl (Or.inl rfl)) (av (au (i:=1) (show List.Nodup (["_law_column","_law_row","_law_wide","_law_high","_law_a"]:List Str) by decide +kernel) rfl (Or.inl rfl)) (av (au (i:=2) (show List.Nodup (["_law_column","_law_row","_law_wide","_law_high","_law_a"]:List Str) by decide +kernel) rfl (Or.inl rfl)) (av (au (i:=3) (show List.Nodup (["_law_column","_law_row","_law_wide","_law_high","_law_a"]:List Str) by decide +kernel) rfl (Or.inl rfl)) bg)))))) (fun _ _ _=>bV) (fun _ _ _=>(aX (ae (eT (eT (bj (dv 4) ai) (dv 0)) (dv 2)) (ae (dv 1) (ae (dv 2) (ae (dv 3) aj)))))) rfl nofun rfl nofun (by walk_at "cl") (dh rfl) rfl (cN ⟨vd,trivial⟩))) aU)
  (ar (aC (aX (ae (bj (dv 1) ai) (ae (bj (dv 2) ai) (ae (dv 3) aj))))))))),fun ds Z Qd h=>vo h⟩)
theorem zu:aH ["_law_bag_here","_law_row","_law_rest"] ["_law_bag_here","_law_row"] (ay eK):=by walk_at "s"
theorem zD(T:TX e)(aB:cq e):qq e:=by
 have S:=zu
 exact T.CF.okD S (fun ds Z Q h=>Ca h) (fun cdv A outer s H E hr=>⟨kX,(ak (aW (i:=2) S.nd rfl (Or.inr rfl) (MA rfl T.Ov (ae (dv 1) aj)))
  (ar (aC (yV (N':=["_law_thing","_law_rest","_law_bag_here"]) (cap:=[none,some 2,some 0]) rfl (iD (dv 1)) (fun _ _ _=>(au (i:=0) (show List.Nodup (["_law_thing","_law_rest","_law_bag_here"]:List Str) by decide +kernel) rfl (Or.inl rfl))) (fun _ _ _=>bV) (fun _ _ _=>(Ky (dv 1) (aq (bO aB @bp) (hr.mono ⋯) rfl T.aQ T.aP T.aO (ae (dv 2) (ae (dD rfl T.eZ (ae (dv 1) aj)) aj))))) rfl nofun rfl nofun (by walk_at "cl") (dh rfl) rfl (cN ⟨vd,⟨vd,trivial⟩⟩))))),fun ds Z Qd h=>zp h⟩)
theorem qC:aH ["_law_bag_here","_law_draw"] ["_law_bag_here"] (ay cg):=by walk_at "s"
theorem rF(T:TX e)(aB:cq e):jO e:=by
 have S:=qC
 exact T.rO.okD S (fun ds Z Q h=>Fj h) (fun cdv A outer s H E hr=>⟨fz,(ak (aW (i:=1) S.nd rfl (Or.inl rfl) (aq (bO aB @bp) (hr.mono ⋯) rfl T.aQ T.aP T.aO (ae (dv 0) (ae ai aj))))
  (ak (bB (aN (cZ hr.units) bq (dv 1) ai (aI _)) (ar (aC (aF (kO (ae (aX (ae ai (ae ai aj))) (ae (aX (ae ai (ae ai aj))) (ae (aX (ae ai (ae ai aj))) (ae (aX (ae ai (ae ai aj))) (ae (aX (ae ai (ae ai aj))) (ae (aX (ae ai (ae ai aj))) aj))))))) (aq (bO aB @bp) (hr.mono ⋯) rfl T.aQ T.aP T.aO (ae (dv 0) (ae ai aj)))))) aU)
  (ak (bB (aN ku ej (dv 1) ai (aI _)) (ar (aC (aX (ae (bj ai (aq (bO aB @bp) (hr.mono ⋯) rfl T.aQ T.aP T.aO (ae (dv 0) (ae ai aj)))) (ae (bj ai (aq (bO aB @bp) (hr.mono ⋯) rfl T.aQ T.aP T.aO (ae (dv 0) (ae ai aj)))) aj))))) aU)
  (ar (aC (aX (ae (bj ai (aq (bO aB @bp) (hr.mono ⋯) rfl T.aQ T.aP T.aO (ae (dv 0) (ae ai aj)))) (ae (bj ai (aq (bO aB @bp) (hr.mono ⋯) rfl T.aQ T.aP T.aO (ae (dv 0) (ae ai aj)))) aj)))))))),fun ds Z Qd h=>qV h⟩)
theorem ya:aH ["_law_bag_here","_law_columns","_law_rows","_law_met","_law_found","_law_most","_law_row","_law_column","_law_wide","_law_high","_law_k"] ["_law_bag_here","_law_columns","_law_rows"] (ay dI):=by walk_at "s"
theorem yN(T:TX e)(aB:cq e)(oZ:tw e):pC e:=by
 have S:=ya
 exact N0 (T.AI.okD S (fun ds Z Q h=>Ar h) (fun cdv A outer s H E hr=>⟨jX,(ak (aW (i:=3) S.nd rfl (Or.inl rfl) vD)
  (ak (aW (i:=4) S.nd rfl (Or.inl rfl) (km aj))
  (ak (aW (i:=5) S.nd rfl (Or.inl rfl) (aF (kO (ae ai (ae ai (ae ai (ae ai aj))))) (aq aB (hr.mono ⋯) rfl T.aQ T.aP T.aO (ae (dv 0) (ae ai aj)))))
  (ak (eS PassesOwn.never rfl (p4 rfl T.gu (ae (dv 2) aj)) (au (i:=6) S.nd rfl (Or.inl rfl)) (ar (eS PassesOwn.never rfl (p4 rfl T.gu (ae (dv 1) aj)) (au (i:=7) S.nd rfl (Or.inl rfl)) (ar (bB (A9 hr.units (aX (ae (dv 7) (ae (dv 6) aj))) (dv 3) (by with_unfolding_all rfl)) (ak (aW (i:=8) S.nd rfl (Or.inl rfl) (bj ai (aq aB (hr.mono ⋯) rfl T.aQ T.aP T.aO (ae (dv 0) (ae (FU rfl rfl T.LB (ae (dv 5) (ae (aq oZ (hr.mono ⋯) rfl T.E5 T.DC T.Fv (ae (dv 3) (ae (dv 7) (ae (dv 6) (ae (dv 1) aj))))) aj))) aj)))))
  (ak (aW (i:=9) S.nd rfl (Or.inl rfl) (bj ai (aq aB (hr.mono ⋯) rfl T.aQ T.aP T.aO (ae (dv 0) (ae (FU rfl rfl T.LB (ae (dv 5) (ae (eT (dv 2) (dv 6)) aj))) aj)))))
  (ak (iG (p6 (dv 4) (aX (ae (dv 7) (ae (dv 6) (ae (dv 8) (ae (dv 9) aj)))))))
  (ar (eS PassesOwn.never rfl (p4 rfl T.gu (ae (bz (dv 8) (dv 9)) aj)) (au (i:=10) S.nd rfl (Or.inl rfl)) (ar (Ct hr.units (dv 3) (aX (ae (bj (dv 7) (k6 (dv 10) (dv 8))) (ae (bj (dv 6) (jT (dv 10) (dv 8))) aj))) d8))))))) aU)))))
  (ar (aC (dv 4))))))),fun ds Z Qd h=>xK h⟩)) (fun ds Z Qd h=>wU h)
theorem rS:aH ["_law_thing"] ["_law_thing"] (ay cD):=by walk_at "s"
theorem si(T:TX e)(i8:lD e)(cA:jS e):gw e:=by
 have S:=rS
 exact T.uQ.okD S (fun ds Z Q h=>zg h) (fun cdv A outer s H E hr=>⟨gb,(ak (bB (DW.dt (dm (cu (ck (jh (kit_tuple _) rfl T.bF rfl T.eD PyProof.Rows.Boot.«tuple» (dv 0)))) (dm (aN (eo hr.units) bq (dD rfl T.eZ (ae (dv 0) aj)) ai (aI _)) (dA (cu (ck (BB rfl rfl T.HR (ae (eX (N':=["_law_one"]) (cap:=[none]) rfl (Aa (gT (dv 0))) (fun _ _ _=>(au (i:=0) (show List.Nodup (["_law_one"]:List Str) by decide +kernel) rfl (Or.inl rfl))) (fun _ _ _=>bV) (fun _ _ _=>(aq i8 (hr.mono ⋯) rfl T.wC T.wV T.wF (ae (dv 0) aj))) rfl nofun rfl nofun (by walk_at "cl") (dh rfl) rfl (cN trivial)) aj)))))))) (ar (aC d8)) aU)
  (ar (aC (ja (d9 nK ej (aF (dv 0) ai) ai (aI _)) (jV (d9 (cZ hr.units) bq (aq cA (hr.mono ⋯) rfl T.iu T.ix T.iC (ae (aq cA (hr.mono ⋯) rfl T.iu T.ix T.iC (ae (aF (dv 0) ai) (ae (aF (dv 0) ai) aj))) (ae (aF (dv 0) ai) aj))) ai (aI _))))))),fun ds Z Qd h=>tK h⟩)
theorem BG:aH ["thing","a","b","c"] ["thing"] (ay fT):=by walk_at "s"
theorem Dq(T:TX e)(jG:vS e)(cK:gD e):nB e:=by
 have S:=BG
 exact T.Eh.okD S (fun ds Z Q h=>zg h) (fun cdv A outer s H E hr=>⟨nC,(ak (bB (DW.dt (dm (cu (ck (jh (kit_tuple _) rfl T.bF rfl T.eD PyProof.Rows.Boot.«tuple» (dv 0)))) (dA (aN (eo hr.units) bq (dD rfl T.eZ (ae (dv 0) aj)) ai (aI _))))) (ar (aC d8)) aU)
  (ak (dz (dv 0) (bE (n:=3) rfl (av (au (i:=1) S.nd rfl (Or.inl rfl)) (av (au (i:=2) S.nd rfl (Or.inl rfl)) (av (au (i:=3) S.nd rfl (Or.inl rfl)) bg)))))
  (ak (bB (DW.dt (dm (cu (ck (aq jG (hr.mono ⋯) rfl T.rq T.rM T.qW (ae (dv 1) aj)))) (dm (cu (ck (aq jG (hr.mono ⋯) rfl T.rq T.rM T.qW (ae (dv 2) aj)))) (dA (cu (ck (aq jG (hr.mono ⋯) rfl T.rq T.rM T.qW (ae (dv 3) aj)))))))) (ar (aC d8)) aU)
  (ar (aC (ja (d9 D8 ej (dv 3) ai (aI _)) (jV (d9 (cZ hr.units) bq (aq cK (hr.mono ⋯) rfl T.lN T.mh T.ma (ae (dv 1) (ae (dv 2) (ae (dv 3) aj)))) ai (aI _))))))))),fun ds Z Qd h=>B6 h⟩)
theorem Js:aH ["a","b","c","divisor"] ["a","b","c"] (ay mj):=by walk_at "s"
theorem JM(T:TX e)(cK:gD e):va e:=by
 have S:=Js
 exact T.MB.okD S (fun ds Z Q h=>sI h) (fun cdv A outer s H E hr=>⟨uE,(ak (bB (aN (cZ hr.units) bq (dv 2) ai (aI _)) (ar Fs) aU)
  (ak (aW (i:=3) S.nd rfl (Or.inl rfl) (aq cK (hr.mono ⋯) rfl T.lN T.mh T.ma (ae (dv 0) (ae (dv 1) (ae (dv 2) aj)))))
  (ak (bB (aN ku ej (dv 2) ai (aI _)) (ar (aW (i:=3) S.nd rfl (Or.inl rfl) (ij (dv 3)))) aU)
  (ar (aC (aX (ae (jT (dv 0) (dv 3)) (ae (jT (dv 1) (dv 3)) (ae (jT (dv 2) (dv 3)) aj))))))))),fun ds Z Qd h=>Ji h⟩)
theorem ye:aH ["d","marks","x","low","high","middle"] ["d","marks","x"] (ay dQ):=by walk_at "s"
theorem xC(T:TX e)(rH:vU e):o8 e:=by
 have S:=ye
 exact T.zA.okD S (fun ds Z Q h=>C7 h) (fun cdv A outer s H E hr=>⟨jP,(ak (aW (i:=3) S.nd rfl (Or.inl rfl) ai)
  (ak (aW (i:=4) S.nd rfl (Or.inl rfl) (dD rfl T.eZ (ae (dv 1) aj)))
  (ak (oG PassesOwn.never (aN ku ej (dv 3) (dv 4) (aI _)) (ak (aW (i:=5) S.nd rfl (Or.inl rfl) (jT (bj (dv 3) (dv 4)) ai))
  (ar (bB (ck (aq rH (hr.mono ⋯) rfl T.Gr T.Gm T.GI (ae (dv 0) (ae (dv 2) (ae (aF (dv 1) (dv 5)) aj))))) (ar (aW (i:=3) S.nd rfl (Or.inl rfl) (bj (dv 5) ai))) (ar (aW (i:=4) S.nd rfl (Or.inl rfl) (dv 5)))))))
  (ar (aC (dv 3)))))),fun ds Z Qd h=>yo h⟩)
theorem B7:aH ["_law_x","_law_y"] ["_law_x","_law_y"] (ay fY):=by walk_at "s"
theorem CS(T:TX e)(fA:ph e):gJ e:=by
 have S:=B7
 exact T.EG.okD S (fun ds Z Q h=>yU h) (fun cdv A outer s H E hr=>⟨sF,(ar (aC (aq fA (hr.mono ⋯) rfl T.rJ T.qG T.rB (ae (bj (bz (aF (dv 0) ai) (aF (dv 1) ai)) (bz (aF (dv 1) ai) (aF (dv 0) ai))) (ae (bj (bz (aF (dv 0) ai) (aF (dv 1) ai)) (bz (aF (dv 1) ai) (aF (dv 0) ai))) (ae (bz (aF (dv 0) ai) (aF (dv 1) ai)) aj)))))),fun ds Z Qd h=>B5 h⟩)
theorem BV:aH ["_law_bag_here","_law_d","_law_way","_law_x","_law_sign_here"] ["_law_bag_here","_law_d","_law_way"] (ay fH):=by walk_at "s"
theorem CW(T:TX e)(aB:cq e)(fA:ph e)(bH:gi e)(cw:ir e):sD e:=by
 have S:=BV
 exact T.Fo.okD S (fun ds Z Q h=>E2 h) (fun cdv A outer s H E hr=>⟨mK,(ak (bB (aN (cZ hr.units) bq (dv 2) ai (aI _)) (ar (aC (aX (ae (bj ai (aq (bO aB @bp) (hr.mono ⋯) rfl T.aQ T.aP T.aO (ae (dv 0) (ae ai aj)))) (ae ai (ae ai aj)))))) aU)
  (ak (bB (aN (cZ hr.units) bq (dv 2) ai (aI _)) (ar (aC (aq fA (hr.mono ⋯) rfl T.rJ T.qG T.rB (ae (bj ai (aq (bO aB @bp) (hr.mono ⋯) rfl T.aQ T.aP T.aO (ae (dv 0) (ae ai aj)))) (ae ai (ae (bj ai (aq (bO aB @bp) (hr.mono ⋯) rfl T.aQ T.aP T.aO (ae (dv 0) (ae ai aj)))) aj)))))) aU)
  (ak (aW (i:=3) S.nd rfl (Or.inl rfl) (aq fA (hr.mono ⋯) rfl T.rJ T.qG T.rB (ae (eT (aq (bO aB @bp) (hr.mono ⋯) rfl T.aQ T.aP T.aO (ae (dv 0) (ae ai aj))) ai) (ae (eT (aq (bO aB @bp) (hr.mono ⋯) rfl T.aQ T.aP T.aO (ae (dv 0) (ae ai aj))) ai) (ae (bj ai (aq (bO aB @bp) (hr.mono ⋯) rfl T.aQ T.aP T.aO (ae (dv 0) (ae ai aj)))) aj)))))
  (ak (aW (i:=4) S.nd rfl (Or.inl rfl) (aq bH (hr.mono ⋯) rfl T.iU T.iS T.iO (ae (dv 1) (ae (dv 3) aj))))
  (ak (bB (aN (cZ hr.units) bq (dv 4) ai (aI _)) (ar (aC (aX (ae ai (ae ai (ae ai aj)))))) aU)
  (ar (aC (EF (aN nK ej (dv 4) ai (aI _)) (dv 3) (aq cw (hr.mono ⋯) rfl T.mS T.mV T.nD (ae (dv 3) aj)))))))))),fun ds Z Qd h=>BW h⟩)
theorem vp:aH ["_law_d","_law_thing"] ["_law_d","_law_thing"] (ay cP):=by walk_at "s"
theorem uU(T:TX e)(cH:gw e)(bH:gi e):hE e:=by
 have S:=vp
 exact T.wL.okD S (fun ds Z Q h=>rR h) (fun cdv A outer s H E hr=>⟨gU,(ar (aC (ja (aq cH (hr.mono ⋯) rfl T.lO T.mz T.lP (ae (dv 1) aj)) (jV (d9 nK ej (aq bH (hr.mono ⋯) rfl T.iU T.iS T.iO (ae (dv 0) (ae (dv 1) aj))) ai (aI _)))))),fun ds Z Qd h=>uS h⟩)
theorem Nt:aH ["x","y"] ["x","y"] (ay vf):=by walk_at "s"
theorem bS(T:TX e)(mC:va e):HD e:=by
 have S:=Nt
 exact T.Pq.okD S (fun ds Z Q h=>yU h) (fun cdv A outer s H E hr=>⟨Cp,(ar (aC (aq mC (hr.mono ⋯) rfl T.Ff T.Dz T.EY (ae (bj (bz (aF (dv 0) ai) (aF (dv 1) ai)) (bz (aF (dv 1) ai) (aF (dv 0) ai))) (ae (bj (bz (aF (dv 0) ai) (aF (dv 1) ai)) (bz (aF (dv 1) ai) (aF (dv 0) ai))) (ae (bz (aF (dv 0) ai) (aF (dv 1) ai)) aj)))))),fun ds Z Qd h=>HU h⟩)
theorem NX:aH ["x","y"] ["x","y"] (ay vG):=by walk_at "s"
theorem aZ(T:TX e)(mC:va e):BH e:=by
 have S:=NX
 exact T.PX.okD S (fun ds Z Q h=>xt h) (fun cdv A outer s H E hr=>⟨Bv,(ar (aC (aq mC (hr.mono ⋯) rfl T.Ff T.Dz T.EY (ae (eT (bz (aF (dv 0) ai) (aF (dv 1) ai)) (bz (aF (dv 1) ai) (aF (dv 0) ai))) (ae (eT (bz (aF (dv 0) ai) (aF (dv 1) ai)) (bz (aF (dv 1) ai) (aF (dv 0) ai))) (ae (bz (aF (dv 0) ai) (aF (dv 1) ai)) aj)))))),fun ds Z Qd h=>MP h⟩)
theorem rE:aH ["d","thing"] ["d","thing"] (ay cj):=by walk_at "s"
theorem qJ(T:TX e)(d6:nB e)(g9:rG e):fq e:=by
 have S:=rE
 exact T.sM.okD S (fun ds Z Q h=>rR h) (fun cdv A outer s H E hr=>⟨fF,(ar (aC (ja (aq d6 (hr.mono ⋯) rfl T.oK T.oO T.oN (ae (dv 1) aj)) (jV (d9 (cZ hr.units) bq (aq g9 (hr.mono ⋯) rfl T.vA T.vm T.vz (ae (dv 0) (ae (dv 1) aj))) ai (aI _)))))),fun ds Z Qd h=>rj h⟩)
theorem v5:aH ["d","found","marks","x","place"] ["d","found"] (ay di):=by walk_at "s"
theorem wu(T:TX e)(kT:o8 e):nI e:=by
 have S:=v5
 exact uL (T.yz.okD S (fun ds Z Q h=>C8 h) (fun cdv A outer s H E hr=>⟨jb,(ak (aW (i:=2) S.nd rfl (Or.inl rfl) (km aj))
  (ak (eS PassesOwn.never rfl (iD (dv 1)) (au (i:=3) S.nd rfl (Or.inl rfl)) (ak (aW (i:=4) S.nd rfl (Or.inl rfl) (aq kT (hr.mono ⋯) rfl T.Ai T.AF T.Ax (ae (dv 0) (ae (dv 2) (ae (dv 3) aj)))))
  (ar (bB (DW.dt (dm (aN (cZ hr.units) bq (dv 4) (dD rfl T.eZ (ae (dv 2) aj)) (aI _)) (dA (aN (eo hr.units) bq (aF (dv 2) (dv 4)) (dv 3) (aI _))))) (ar (iG (Bk (dv 2) (dv 4) (dv 3)))) aU))))
  (ar (aC (dv 2))))),fun ds Z Qd h=>wH h⟩)) (fun ds Z Qd h=>uM h)
theorem CU:aH ["_law_x","_law_y"] ["_law_x","_law_y"] (ay fU):=by walk_at "s"
theorem CY(T:TX e)(bI:gJ e)(cw:ir e):ju e:=by
 have S:=CU
 exact T.Dw.okD S (fun ds Z Q h=>xt h) (fun cdv A outer s H E hr=>⟨mU,(ar (aC (aq bI (hr.mono ⋯) rfl T.iT T.iR T.iW (ae (dv 0) (ae (aq cw (hr.mono ⋯) rfl T.mS T.mV T.nD (ae (dv 1) aj)) aj))))),fun ds Z Qd h=>B4 h⟩)
theorem CA:aH ["_law_sides_here","_law_found","_law_side_here"] ["_law_sides_here"] (ay fM):=by walk_at "s"
theorem BY(T:TX e)(bI:gJ e):rX e:=by
 have S:=CA
 exact uL (T.Em.okD S (fun ds Z Q h=>Eg h) (fun cdv A outer s H E hr=>⟨mG,(ak (aW (i:=1) S.nd rfl (Or.inl rfl) (km (ae (aX (ae ai (ae ai (ae ai aj)))) aj)))
  (ak (eS PassesOwn.never rfl (iD (dv 0)) (au (i:=2) S.nd rfl (Or.inl rfl)) (ar (iG (p6 (dv 1) (aq bI (hr.mono ⋯) rfl T.iT T.iR T.iW (ae (aF (dv 1) (ij ai)) (ae (dv 2) aj)))))))
  (ar (aC (dv 1))))),fun ds Z Qd h=>Bs h⟩)) (fun ds Z Qd h=>Ad h)
theorem Ag:aH ["_law_bag_here","_law_d","_law_many","_law_way"] ["_law_bag_here","_law_d","_law_many"] (ay eC):=by walk_at "s"
theorem zG(T:TX e)(aB:cq e)(kB:sD e):qw e:=by
 have S:=Ag
 exact T.C3.okD S (fun ds Z Q h=>E4 h) (fun cdv A outer s H E hr=>⟨lh,(ak (aW (i:=3) S.nd rfl (Or.inr rfl) (aq (bO aB @bp) (hr.mono ⋯) rfl T.aQ T.aP T.aO (ae (dv 0) (ae ai aj))))
  (ak (bB (aN (cZ hr.units) bq (aq (bO aB @bp) (hr.mono ⋯) rfl T.aQ T.aP T.aO (ae (dv 0) (ae ai aj))) ai (aI _)) (ar (aC (OP (kO (ae (aq kB (hr.mono ⋯) rfl T.vP T.vQ T.vZ (ae (dv 0) (ae (dv 1) (ae (dv 3) aj)))) aj)) (dv 2)))) aU)
  (ar (aC (yV (N':=["_law_k","_law_bag_here","_law_d","_law_way"]) (cap:=[none,some 0,some 1,some 3]) rfl (p4 rfl T.gu (ae (dv 2) aj)) (fun _ _ _=>(au (i:=0) (show List.Nodup (["_law_k","_law_bag_here","_law_d","_law_way"]:List Str) by decide +kernel) rfl (Or.inl rfl))) (fun _ _ _=>bV) (fun _ _ _=>(aq kB (hr.mono ⋯) rfl T.vP T.vQ T.vZ (ae (dv 1) (ae (dv 2) (ae (dv 3) aj))))) rfl nofun rfl nofun (by walk_at "cl") (dh rfl) rfl (cN ⟨vd,⟨vd,⟨vd,trivial⟩⟩⟩)))))),fun ds Z Qd h=>Ap h⟩)
theorem wa:aH ["_law_d","_law_thing"] ["_law_d","_law_thing"] (ay dg):=by walk_at "s"
theorem wI(T:TX e)(cH:gw e)(bH:gi e)(bM:hE e):nH e:=by
 have S:=wa
 exact T.zk.okD S (fun ds Z Q h=>yp h) (fun cdv A outer s H E hr=>⟨iY,(ak (bB (DW.dt (dm (cu (ck (jh (kit_tuple _) rfl T.bF rfl T.eD PyProof.Rows.Boot.«tuple» (dv 1)))) (dm (aN (eo hr.units) bq (dD rfl T.eZ (ae (dv 1) aj)) ai (aI _)) (dA (cu (ck (BB rfl rfl T.HR (ae (eX (N':=["_law_one"]) (cap:=[none]) rfl (Aa (gT (dv 1))) (fun _ _ _=>(au (i:=0) (show List.Nodup (["_law_one"]:List Str) by decide +kernel) rfl (Or.inl rfl))) (fun _ _ _=>bV) (fun _ _ _=>(aq cH (hr.mono ⋯) rfl T.lO T.mz T.lP (ae (dv 0) aj))) rfl nofun rfl nofun (by walk_at "cl") (dh rfl) rfl (cN trivial)) aj)))))))) (ar (aC d8)) aU)
  (ak (bB (DW.dt (dm (aN ku ej (aq bH (hr.mono ⋯) rfl T.iU T.iS T.iO (ae (dv 0) (ae (aF (dv 1) ai) aj))) ai (aI _)) (dA (aN ku ej (aq bH (hr.mono ⋯) rfl T.iU T.iS T.iO (ae (dv 0) (ae (aF (dv 1) ai) aj))) ai (aI _))))) (ar (aC d8)) aU)
  (ar (aC (ja (aq bM (hr.mono ⋯) rfl T.fg T.fk T.ff (ae (dv 0) (ae (aF (dv 1) ai) aj))) (jV (aq bM (hr.mono ⋯) rfl T.fg T.fk T.ff (ae (dv 0) (ae (aF (dv 1) ai) aj))))))))),fun ds Z Qd h=>wN h⟩)
theorem zv:aH ["_law_d","_law_x","_law_y"] ["_law_d","_law_x","_law_y"] (ay eO):=by walk_at "s"
theorem AD(T:TX e)(bH:gi e)(bI:gJ e)(cw:ir e):qy e:=by
 have S:=zv
 exact T.CO.okD S (fun ds Z Q h=>Dx h) (fun cdv A outer s H E hr=>⟨k9,(ar (aC (d9 nK ej (aq bH (hr.mono ⋯) rfl T.iU T.iS T.iO (ae (dv 0) (ae (aq bI (hr.mono ⋯) rfl T.iT T.iR T.iW (ae (dv 2) (ae (aq cw (hr.mono ⋯) rfl T.mS T.mV T.nD (ae (dv 1) aj)) aj))) aj))) ai (aI _)))),fun ds Z Qd h=>Al h⟩)
theorem Gj:aH ["d","thing","x","y","width","height"] ["d","thing"] (ay jD):=by walk_at "s"
theorem GN(T:TX e)(d6:nB e)(g9:rG e)(bC:fq e):yY e:=by
 have S:=Gj
 exact T.Jg.okD S (fun ds Z Q h=>yp h) (fun cdv A outer s H E hr=>⟨rN,(ak (bB (DW.dt (dm (cu (ck (jh (kit_tuple _) rfl T.bF rfl T.eD PyProof.Rows.Boot.«tuple» (dv 1)))) (dA (aN (eo hr.units) bq (dD rfl T.eZ (ae (dv 1) aj)) ai (aI _))))) (ar (aC d8)) aU)
  (ak (dz (dv 1) (bE (n:=4) rfl (av (au (i:=2) S.nd rfl (Or.inl rfl)) (av (au (i:=3) S.nd rfl (Or.inl rfl)) (av (au (i:=4) S.nd rfl (Or.inl rfl)) (av (au (i:=5) S.nd rfl (Or.inl rfl)) bg))))))
  (ak (bB (DW.dt (dm (cu (ck (aq d6 (hr.mono ⋯) rfl T.oK T.oO T.oN (ae (dv 2) aj)))) (dm (cu (ck (aq d6 (hr.mono ⋯) rfl T.oK T.oO T.oN (ae (dv 3) aj)))) (dm (aN ku ej (aq g9 (hr.mono ⋯) rfl T.vA T.vm T.vz (ae (dv 0) (ae (dv 2) aj))) ai (aI _)) (dA (aN ku ej (aq g9 (hr.mono ⋯) rfl T.vA T.vm T.vz (ae (dv 0) (ae (dv 3) aj))) ai (aI _))))))) (ar (aC d8)) aU)
  (ar (aC (ja (aq bC (hr.mono ⋯) rfl T.dU T.dY T.dW (ae (dv 0) (ae (dv 4) aj))) (jV (aq bC (hr.mono ⋯) rfl T.dU T.dY T.dW (ae (dv 0) (ae (dv 5) aj)))))))))),fun ds Z Qd h=>FO h⟩)
theorem Cd:aH ["tile","x","y","width","height"] ["tile"] (ay fN):=by walk_at "s"
theorem CG(T:TX e)(BX:HD e):sO e:=by
 have S:=Cd
 exact T.EB.okD S (fun ds Z Q h=>zU h) (fun cdv A outer s H E hr=>⟨mW,(ak (dz (dv 0) (bE (n:=4) rfl (av (au (i:=1) S.nd rfl (Or.inl rfl)) (av (au (i:=2) S.nd rfl (Or.inl rfl)) (av (au (i:=3) S.nd rfl (Or.inl rfl)) (av (au (i:=4) S.nd rfl (Or.inl rfl)) bg))))))
  (ar (aC (aX (ae (dv 1) (ae (aq BX (hr.mono ⋯) rfl T.JY T.L8 T.LZ (ae (dv 1) (ae (dv 3) aj))) (ae (dv 2) (ae (aq BX (hr.mono ⋯) rfl T.JY T.L8 T.LZ (ae (dv 2) (ae (dv 4) aj))) aj)))))))),fun ds Z Qd h=>CB h⟩)
theorem yt:aH ["floor_height","tile","x","y","width","height"] ["floor_height","tile"] (ay dG):=by walk_at "s"
theorem yT(T:TX e)(pE:BH e):ou e:=by
 have S:=yt
 exact T.zS.okD S (fun ds Z Q h=>DZ h) (fun cdv A outer s H E hr=>⟨j0,(ak (dz (dv 1) (bE (n:=4) rfl (av (au (i:=2) S.nd rfl (Or.inl rfl)) (av (au (i:=3) S.nd rfl (Or.inl rfl)) (av (au (i:=4) S.nd rfl (Or.inl rfl)) (av (au (i:=5) S.nd rfl (Or.inl rfl)) bg))))))
  (ar (aC (aX (ae (aq pE (hr.mono ⋯) rfl T.Cy T.Ck T.BJ (ae (aq pE (hr.mono ⋯) rfl T.Cy T.Ck T.BJ (ae (dv 0) (ae (dv 3) aj))) (ae (dv 5) aj))) (ae (dv 2) (ae (dv 5) (ae (dv 4) aj)))))))),fun ds Z Qd h=>yv h⟩)
theorem u4:aH ["floor_width","tile","x","y","width","height"] ["floor_width","tile"] (ay cQ):=by walk_at "s"
theorem uu(T:TX e)(pE:BH e):lV e:=by
 have S:=u4
 exact T.wO.okD S (fun ds Z Q h=>Gg h) (fun cdv A outer s H E hr=>⟨ie,(ak (dz (dv 1) (bE (n:=4) rfl (av (au (i:=2) S.nd rfl (Or.inl rfl)) (av (au (i:=3) S.nd rfl (Or.inl rfl)) (av (au (i:=4) S.nd rfl (Or.inl rfl)) (av (au (i:=5) S.nd rfl (Or.inl rfl)) bg))))))
  (ar (aC (aX (ae (aq pE (hr.mono ⋯) rfl T.Cy T.Ck T.BJ (ae (aq pE (hr.mono ⋯) rfl T.Cy T.Ck T.BJ (ae (dv 0) (ae (dv 2) aj))) (ae (dv 4) aj))) (ae (dv 3) (ae (dv 4) (ae (dv 5) aj)))))))),fun ds Z Qd h=>vn h⟩)
theorem zC:aH ["_law_bag_here","_law_d","_law_columns","_law_rows","_law_blocks_here","_law_xs","_law_ys","_law_tiles","_law_column","_law_row","_law_wide","_law_high","_law_width","_law_height"] ["_law_bag_here","_law_d","_law_columns","_law_rows","_law_blocks_here"] (ay eA):=by walk_at "s"
theorem An(T:TX e)(j9:rX e)(jn:qw e)(nA:qq e)(bL:ju e):qp e:=by
 have S:=zC
 exact T.BP.okD S (fun ds Z Q h=>CN h) (fun cdv A outer s H E hr=>⟨kL,(ak (qM (i:=5) (j:=6) rfl S.nd rfl rfl ⋯ rfl rfl (ae (aq j9 (hr.mono ⋯) rfl T.vM T.vL T.vK (ae (aq jn (hr.mono ⋯) rfl T.tE T.sJ T.tV (ae (dv 0) (ae (dv 1) (ae (dv 2) aj)))) aj)) (ae (aq j9 (hr.mono ⋯) rfl T.vM T.vL T.vK (ae (aq jn (hr.mono ⋯) rfl T.tE T.sJ T.tV (ae (dv 0) (ae (dv 1) (ae (dv 3) aj)))) aj)) aj)) rfl)
  (ak (aW (i:=7) S.nd rfl (Or.inl rfl) (km aj))
  (ak (eS PassesOwn.never rfl (iD (aq nA (hr.mono ⋯) rfl T.By T.CV T.Dn (ae (dv 0) (ae (dv 4) aj)))) (bE (n:=4) rfl (av (au (i:=8) S.nd rfl (Or.inl rfl)) (av (au (i:=9) S.nd rfl (Or.inl rfl)) (av (au (i:=10) S.nd rfl (Or.inl rfl)) (av (au (i:=11) S.nd rfl (Or.inl rfl)) bg))))) (ak (qM (i:=12) (j:=13) rfl S.nd rfl rfl ⋯ rfl rfl (ae (aq bL (hr.mono ⋯) rfl T.fI T.fO T.fJ (ae (aF (dv 5) (bj (dv 8) (dv 10))) (ae (aF (dv 5) (dv 8)) aj))) (ae (aq bL (hr.mono ⋯) rfl T.fI T.fO T.fJ (ae (aF (dv 6) (bj (dv 9) (dv 11))) (ae (aF (dv 6) (dv 9)) aj))) aj)) rfl)
  (ar (iG (p6 (dv 7) (aX (ae (aF (dv 5) (dv 8)) (ae (aF (dv 6) (dv 9)) (ae (dv 12) (ae (dv 13) aj))))))))))
  (ar (aC (aX (ae (aF (dv 5) (ij ai)) (ae (aF (dv 6) (ij ai)) (ae (o7 rfl T.eD (ae (dv 7) aj)) aj))))))))),fun ds Z Qd h=>zP h⟩)
theorem nT:aH ["_law_laying_here","_law_width","_law_height","_law_tiles"] ["_law_laying_here"] (ay bG):=by walk_at "s"
theorem nQ(T:TX e)(bL:ju e):gQ e:=by
 have S:=nT
 exact T.n5.okD S (fun ds Z Q h=>Ae h) (fun cdv A outer s H E hr=>⟨dS,(ak (dz (dv 0) (bE (n:=3) rfl (av (au (i:=1) S.nd rfl (Or.inl rfl)) (av (au (i:=2) S.nd rfl (Or.inr rfl)) (av (au (i:=3) S.nd rfl (Or.inl rfl)) bg)))))
  (ar (aC (aX (ae (dv 2) (ae (dv 1) (ae (o7 rfl T.eD (ae (eX (N':=["_law_x","_law_y","_law_w","_law_h","_law_height"]) (cap:=[none,none,none,none,some 2]) rfl (Aa (gT (dv 3))) (fun _ _ _=>(bE (n:=4) rfl (av (au (i:=0) (show List.Nodup (["_law_x","_law_y","_law_w","_law_h","_law_height"]:List Str) by decide +kernel) rfl (Or.inl rfl)) (av (au (i:=1) (show List.Nodup (["_law_x","_law_y","_law_w","_law_h","_law_height"]:List Str) by decide +kernel) rfl (Or.inl rfl)) (av (au (i:=2) (show List.Nodup (["_law_x","_law_y","_law_w","_law_h","_law_height"]:List Str) by decide +kernel) rfl (Or.inl rfl)) (av (au (i:=3) (show List.Nodup (["_law_x","_law_y","_law_w","_law_h","_law_height"]:List Str) by decide +kernel) rfl (Or.inl rfl)) bg)))))) (fun _ _ _=>bV) (fun _ _ _=>(aX (ae (aq bL (hr.mono ⋯) rfl T.fI T.fO T.fJ (ae (aq bL (hr.mono ⋯) rfl T.fI T.fO T.fJ (ae (dv 4) (ae (dv 1) aj))) (ae (dv 3) aj))) (ae (dv 0) (ae (dv 3) (ae (dv 2) aj)))))) rfl nofun rfl nofun (by walk_at "cl") (dh rfl) rfl (cN ⟨vd,trivial⟩)) aj)) aj))))))),fun ds Z Qd h=>nS h⟩)
theorem wt:aH ["_law_d","_law_row","_law_found","_law_one","_law_low_here","_law_high","_law_middle"] ["_law_d","_law_row"] (ay dj):=by walk_at "s"
theorem wA(T:TX e)(mX:qy e):nM e:=by
 have S:=wt
 exact uL (T.zd.okD S (fun ds Z Q h=>xW h) (fun cdv A outer s H E hr=>⟨i7,(ak (aW (i:=2) S.nd rfl (Or.inl rfl) (km aj))
  (ak (MX PassesOwn.never rfl (dv 1) (au (i:=3) S.nd rfl (Or.inl rfl)) (ak (qM (i:=4) (j:=5) rfl S.nd rfl rfl ⋯ rfl rfl (ae ai (ae (dD rfl T.eZ (ae (dv 2) aj)) aj)) rfl)
  (ak (oG PassesOwn.never (aN ku ej (dv 4) (dv 5) (aI _)) (ak (aW (i:=6) S.nd rfl (Or.inl rfl) (jT (bj (dv 4) (dv 5)) ai))
  (ar (bB (ck (aq mX (hr.mono ⋯) rfl T.Ce T.BM T.C0 (ae (dv 0) (ae (aF (dv 2) (dv 6)) (ae (dv 3) aj))))) (ar (aW (i:=4) S.nd rfl (Or.inl rfl) (bj (dv 6) ai))) (ar (aW (i:=5) S.nd rfl (Or.inl rfl) (dv 6)))))))
  (ar (bB (DW.dt (dm (aN (cZ hr.units) bq (dv 4) (dD rfl T.eZ (ae (dv 2) aj)) (aI _)) (dA (aN (eo hr.units) bq (aF (dv 2) (dv 4)) (dv 3) (aI _))))) (ar (iG (Bk (dv 2) (dv 4) (dv 3)))) aU)))))
  (ar (aC (dv 2))))),fun ds Z Qd h=>wx h⟩)) (fun ds Z Qd h=>uH h)
theorem qK:aH ["_law_laying_here","_law_width","_law_height","_law_tiles"] ["_law_laying_here"] (ay bZ):=by walk_at "s"
theorem rL(T:TX e)(bL:ju e):jR e:=by
 have S:=qK
 exact T.sL.okD S (fun ds Z Q h=>Fp h) (fun cdv A outer s H E hr=>⟨fG,(ak (dz (dv 0) (bE (n:=3) rfl (av (au (i:=1) S.nd rfl (Or.inr rfl)) (av (au (i:=2) S.nd rfl (Or.inl rfl)) (av (au (i:=3) S.nd rfl (Or.inl rfl)) bg)))))
  (ar (aC (aX (ae (dv 1) (ae (dv 2) (ae (o7 rfl T.eD (ae (eX (N':=["_law_x","_law_y","_law_w","_law_h","_law_width"]) (cap:=[none,none,none,none,some 1]) rfl (Aa (gT (dv 3))) (fun _ _ _=>(bE (n:=4) rfl (av (au (i:=0) (show List.Nodup (["_law_x","_law_y","_law_w","_law_h","_law_width"]:List Str) by decide +kernel) rfl (Or.inl rfl)) (av (au (i:=1) (show List.Nodup (["_law_x","_law_y","_law_w","_law_h","_law_width"]:List Str) by decide +kernel) rfl (Or.inl rfl)) (av (au (i:=2) (show List.Nodup (["_law_x","_law_y","_law_w","_law_h","_law_width"]:List Str) by decide +kernel) rfl (Or.inl rfl)) (av (au (i:=3) (show List.Nodup (["_law_x","_law_y","_law_w","_law_h","_law_width"]:List Str) by decide +kernel) rfl (Or.inl rfl)) bg)))))) (fun _ _ _=>bV) (fun _ _ _=>(aX (ae (aq bL (hr.mono ⋯) rfl T.fI T.fO T.fJ (ae (aq bL (hr.mono ⋯) rfl T.fI T.fO T.fJ (ae (dv 4) (ae (dv 0) aj))) (ae (dv 2) aj))) (ae (dv 1) (ae (dv 2) (ae (dv 3) aj)))))) rfl nofun rfl nofun (by walk_at "cl") (dh rfl) rfl (cN ⟨vd,trivial⟩)) aj)) aj))))))),fun ds Z Qd h=>rn h⟩)
theorem D6:aH ["d","thing","width","height","tiles"] ["d","thing"] (ay gW):=by walk_at "s"
theorem D4(T:TX e)(bC:fq e)(u5:yY e):vT e:=by
 have S:=D6
 exact T.G2.okD S (fun ds Z Q h=>E6 h) (fun cdv A outer s H E hr=>⟨oP,(ak (bB (DW.dt (dm (cu (ck (jh (kit_tuple _) rfl T.bF rfl T.eD PyProof.Rows.Boot.«tuple» (dv 1)))) (dA (aN (eo hr.units) bq (dD rfl T.eZ (ae (dv 1) aj)) ai (aI _))))) (ar (aC d8)) aU)
  (ak (dz (dv 1) (bE (n:=3) rfl (av (au (i:=2) S.nd rfl (Or.inl rfl)) (av (au (i:=3) S.nd rfl (Or.inl rfl)) (av (au (i:=4) S.nd rfl (Or.inl rfl)) bg)))))
  (ak (bB (DW.dt (dm (cu (ck (aq bC (hr.mono ⋯) rfl T.dU T.dY T.dW (ae (dv 0) (ae (dv 2) aj))))) (dA (cu (ck (aq bC (hr.mono ⋯) rfl T.dU T.dY T.dW (ae (dv 0) (ae (dv 3) aj)))))))) (ar (aC d8)) aU)
  (ak (bB (DW.dt (dm (cu (ck (jh (kit_tuple _) rfl T.bF rfl T.eD PyProof.Rows.Boot.«tuple» (dv 4)))) (dm (aN ku ej (dD rfl T.eZ (ae (dv 4) aj)) ai (aI _)) (dA (aN nK ej (dD rfl T.eZ (ae (dv 4) aj)) (H0 (u:=.int 60) rfl T.Bu ⟨_,rfl⟩ (fun _ _ _=>Rp.int 60)) (aI _)))))) (ar (aC d8)) aU)
  (ar (aC (BB rfl rfl T.HR (ae (eX (N':=["tile","d"]) (cap:=[none,some 0]) rfl (Aa (gT (dv 4))) (fun _ _ _=>(au (i:=0) (show List.Nodup (["tile","d"]:List Str) by decide +kernel) rfl (Or.inl rfl))) (fun _ _ _=>bV) (fun _ _ _=>(aq u5 (hr.mono ⋯) rfl T.I0 T.Jk T.JE (ae (dv 1) (ae (dv 0) aj)))) rfl nofun rfl nofun (by walk_at "cl") (dh rfl) rfl (cN ⟨vd,trivial⟩)) aj)))))))),fun ds Z Qd h=>FA h⟩)
theorem xm:aH ["_law_bag_here","_law_d","_law_columns","_law_rows","_law_blocks_here"] ["_law_bag_here","_law_d"] (ay dH):=by walk_at "s"
theorem yM(T:TX e)(aB:cq e)(i9:lB e)(jz:qp e)(gL:jO e)(kQ:pC e):oA e:=by
 have S:=xm
 exact T.zr.okD S (fun ds Z Q h=>zw h) (fun cdv A outer s H E hr=>⟨jH,(ak (bB (aN (cZ hr.units) bq (aq (bO aB @bp) (hr.mono ⋯) rfl T.aQ T.aP T.aO (ae (dv 0) (ae ai aj))) ai (aI _)) (ak (dz (aq i9 (hr.mono ⋯) rfl T.wo T.wm T.wz (ae (dv 0) aj)) (bE (n:=3) rfl (av (au (i:=2) S.nd rfl (Or.inl rfl)) (av (au (i:=3) S.nd rfl (Or.inl rfl)) (av (au (i:=4) S.nd rfl (Or.inl rfl)) bg)))))
  (ar (aC (aq jz (hr.mono ⋯) rfl T.ur T.ue T.tq (ae (dv 0) (ae (dv 1) (ae (dv 2) (ae (dv 3) (ae (dv 4) aj))))))))) aU)
  (ak (dz (aq gL (hr.mono ⋯) rfl T.sf T.sj T.su (ae (dv 0) aj)) (bE (n:=2) rfl (av (au (i:=2) S.nd rfl (Or.inl rfl)) (av (au (i:=3) S.nd rfl (Or.inl rfl)) bg))))
  (ar (aC (aq jz (hr.mono ⋯) rfl T.ur T.ue T.tq (ae (dv 0) (ae (dv 1) (ae (dv 2) (ae (dv 3) (ae (aq kQ (hr.mono ⋯) rfl T.AA T.AG T.zQ (ae (dv 0) (ae (dv 2) (ae (dv 3) aj)))) aj)))))))))),fun ds Z Qd h=>yX h⟩)
theorem Az:aH ["_law_d","_law_ends_here","_law_most","_law_row","_law_low_here","_law_high","_law_places","_law_book","_law_place","_law_one"] ["_law_d","_law_ends_here","_law_most"] (ay eG):=by walk_at "s"
theorem zZ(T:TX e)(j5:nM e):qv e:=by
 have S:=Az
 exact uL (T.CM.okD S (fun ds Z Q h=>Bp h) (fun cdv A outer s H E hr=>⟨kH,(ak (aW (i:=3) S.nd rfl (Or.inl rfl) (km (ae (aX (ae ai (ae ai (ae ai aj)))) (ae (dv 2) aj))))
  (ak (eS PassesOwn.never rfl (iD (dv 1)) (bE (n:=2) rfl (av (au (i:=4) S.nd rfl (Or.inl rfl)) (av (au (i:=5) S.nd rfl (Or.inl rfl)) bg))) (ar (iG (IY (dv 3) (kO (ae (dv 4) (ae (dv 5) aj)))))))
  (ak (aW (i:=6) S.nd rfl (Or.inl rfl) (aq j5 (hr.mono ⋯) rfl T.za T.yJ T.yA (ae (dv 0) (ae (dv 3) aj))))
  (ak (bB (aN (eo hr.units) bq (aF (dv 6) (ij ai)) (dv 2) (aI _)) (ar (aC (aX (ae FR (ae ai aj))))) aU)
  (ak (aW (i:=7) S.nd rfl (Or.inr rfl) vD)
  (ak (eS PassesOwn.never rfl (Dj rfl T.n6 (ae (dv 6) aj)) (bE (n:=2) rfl (av (au (i:=8) S.nd rfl (Or.inl rfl)) (av (au (i:=9) S.nd rfl (Or.inl rfl)) bg))) (ar (Ct hr.units (dv 7) (dv 9) (dv 8))))
  (ar (aC (aX (ae (yV (N':=["_law_low_here","_law_high","_law_book"]) (cap:=[none,none,some 7]) rfl (iD (dv 1)) (fun _ _ _=>(bE (n:=2) rfl (av (au (i:=0) (show List.Nodup (["_law_low_here","_law_high","_law_book"]:List Str) by decide +kernel) rfl (Or.inl rfl)) (av (au (i:=1) (show List.Nodup (["_law_low_here","_law_high","_law_book"]:List Str) by decide +kernel) rfl (Or.inl rfl)) bg)))) (fun _ _ _=>bV) (fun _ _ _=>(aX (ae (uJ hr.units (dv 2) (dv 0)) (ae (uJ hr.units (dv 2) (dv 1)) aj)))) rfl nofun rfl nofun (by walk_at "cl") (dh rfl) rfl (cN ⟨vd,trivial⟩)) (ae (eT (dD rfl T.eZ (ae (dv 6) aj)) ai) aj))))))))))),fun ds Z Qd h=>Ay h⟩)) (fun ds Z Qd h=>xu h)
theorem CP:aH ["d","thing","width","height","tiles","bounds","across","upward"] ["d","thing"] (ay fV):=by walk_at "s"
theorem BR(T:TX e)(rg:vT e)(oU:sO e)(gr:nI e)(gk:nG e)(kW:oJ e):rT e:=by
 have S:=CP
 exact T.EH.okD S (fun ds Z Q h=>BK h) (fun cdv A outer s H E hr=>⟨mN,(ak (bB (cu (ck (aq rg (hr.mono ⋯) rfl T.G1 T.GO T.GU (ae (dv 0) (ae (dv 1) aj))))) (ar (aC d8)) aU)
  (ak (dz (dv 1) (bE (n:=3) rfl (av (au (i:=2) S.nd rfl (Or.inl rfl)) (av (au (i:=3) S.nd rfl (Or.inl rfl)) (av (au (i:=4) S.nd rfl (Or.inl rfl)) bg)))))
  (ak (Cg (i:=5) (N':=["tile"]) (cap:=[none]) S.nd rfl rfl rfl (gT (dv 4)) (fun _ _ _=>(au (i:=0) (show List.Nodup (["tile"]:List Str) by decide +kernel) rfl (Or.inl rfl))) (fun _ _ _=>bV) (fun _ _ _=>(aq oU (hr.mono ⋯) rfl T.EC T.Fi T.Fw (ae (dv 0) aj))) rfl nofun rfl nofun (by walk_at "cl") (dh rfl) rfl (cN trivial))
  (ak (aW (i:=6) S.nd rfl (Or.inl rfl) (aq gr (hr.mono ⋯) rfl T.oj T.pI T.oD (ae (dv 0) (ae (D2 (N':=["left","right","bottom","top","x"]) (cap:=[none,none,none,none,none]) rfl (iD (dv 5)) (fun _ _ _=>(bE (n:=4) rfl (av (au (i:=0) (show List.Nodup (["left","right","bottom","top","x"]:List Str) by decide +kernel) rfl (Or.inl rfl)) (av (au (i:=1) (show List.Nodup (["left","right","bottom","top","x"]:List Str) by decide +kernel) rfl (Or.inl rfl)) (av (au (i:=2) (show List.Nodup (["left","right","bottom","top","x"]:List Str) by decide +kernel) rfl (Or.inl rfl)) (av (au (i:=3) (show List.Nodup (["left","right","bottom","top","x"]:List Str) by decide +kernel) rfl (Or.inl rfl)) bg)))))) (fun _ _ _=>(gT (aX (ae (dv 0) (ae (dv 1) aj))))) (fun _ _ _=>(au (i:=4) (show List.Nodup (["left","right","bottom","top","x"]:List Str) by decide +kernel) rfl (Or.inl rfl))) (fun _ _ _=>(dv 4)) rfl nofun rfl nofun (by walk_at "cl") (dh rfl) AS rfl (cN trivial)) aj))))
  (ak (aW (i:=7) S.nd rfl (Or.inl rfl) (aq gr (hr.mono ⋯) rfl T.oj T.pI T.oD (ae (dv 0) (ae (D2 (N':=["left","right","bottom","top","y"]) (cap:=[none,none,none,none,none]) rfl (iD (dv 5)) (fun _ _ _=>(bE (n:=4) rfl (av (au (i:=0) (show List.Nodup (["left","right","bottom","top","y"]:List Str) by decide +kernel) rfl (Or.inl rfl)) (av (au (i:=1) (show List.Nodup (["left","right","bottom","top","y"]:List Str) by decide +kernel) rfl (Or.inl rfl)) (av (au (i:=2) (show List.Nodup (["left","right","bottom","top","y"]:List Str) by decide +kernel) rfl (Or.inl rfl)) (av (au (i:=3) (show List.Nodup (["left","right","bottom","top","y"]:List Str) by decide +kernel) rfl (Or.inl rfl)) bg)))))) (fun _ _ _=>(gT (aX (ae (dv 2) (ae (dv 3) aj))))) (fun _ _ _=>(au (i:=4) (show List.Nodup (["left","right","bottom","top","y"]:List Str) by decide +kernel) rfl (Or.inl rfl))) (fun _ _ _=>(dv 4)) rfl nofun rfl nofun (by walk_at "cl") (dh rfl) AS rfl (cN trivial)) aj))))
  (ar (aC (ja (aq gk (hr.mono ⋯) rfl T.oQ T.oW T.pG (ae (dv 6) (ae (dv 2) aj))) (ja (aq gk (hr.mono ⋯) rfl T.oQ T.oW T.pG (ae (dv 7) (ae (dv 3) aj))) (jV (aq kW (hr.mono ⋯) rfl T.zI T.zW T.AE (ae (dv 5) (ae (dv 6) (ae (dv 7) aj)))))))))))))),fun ds Z Qd h=>Bt h⟩)
theorem xr:aH ["_law_d","_law_width","_law_height","_law_tiles","_law_wide","_law_columns","_law_high","_law_rows","_law_met","_law_span","_law_side_here","_law_column","_law_row"] ["_law_d","_law_width","_law_height","_law_tiles"] (ay dR):=by walk_at "s"
theorem xo(T:TX e)(jo:qv e)(bI:gJ e):pq e:=by
 have S:=xr
 exact uL (T.zY.okD S (fun ds Z Q h=>yy h) (fun cdv A outer s H E hr=>⟨j2,(ak (dz (aq jo (hr.mono ⋯) rfl T.tT T.sA T.sY (ae (dv 0) (ae (eX (N':=["_law_x","_law_y","_law_w","_law_h"]) (cap:=[none,none,none,none]) rfl (Aa (gT (dv 3))) (fun _ _ _=>(bE (n:=4) rfl (av (au (i:=0) (show List.Nodup (["_law_x","_law_y","_law_w","_law_h"]:List Str) by decide +kernel) rfl (Or.inl rfl)) (av (au (i:=1) (show List.Nodup (["_law_x","_law_y","_law_w","_law_h"]:List Str) by decide +kernel) rfl (Or.inl rfl)) (av (au (i:=2) (show List.Nodup (["_law_x","_law_y","_law_w","_law_h"]:List Str) by decide +kernel) rfl (Or.inl rfl)) (av (au (i:=3) (show List.Nodup (["_law_x","_law_y","_law_w","_law_h"]:List Str) by decide +kernel) rfl (Or.inl rfl)) bg)))))) (fun _ _ _=>bV) (fun _ _ _=>(aX (ae (dv 0) (ae (aq bI (hr.mono ⋯) rfl T.iT T.iR T.iW (ae (dv 0) (ae (dv 2) aj))) aj)))) rfl nofun rfl nofun (by walk_at "cl") (dh rfl) rfl (cN trivial)) (ae (dv 1) aj)))) (bE (n:=2) rfl (av (au (i:=4) S.nd rfl (Or.inl rfl)) (av (au (i:=5) S.nd rfl (Or.inl rfl)) bg))))
  (ak (dz (aq jo (hr.mono ⋯) rfl T.tT T.sA T.sY (ae (dv 0) (ae (eX (N':=["_law_x","_law_y","_law_w","_law_h"]) (cap:=[none,none,none,none]) rfl (Aa (gT (dv 3))) (fun _ _ _=>(bE (n:=4) rfl (av (au (i:=0) (show List.Nodup (["_law_x","_law_y","_law_w","_law_h"]:List Str) by decide +kernel) rfl (Or.inl rfl)) (av (au (i:=1) (show List.Nodup (["_law_x","_law_y","_law_w","_law_h"]:List Str) by decide +kernel) rfl (Or.inl rfl)) (av (au (i:=2) (show List.Nodup (["_law_x","_law_y","_law_w","_law_h"]:List Str) by decide +kernel) rfl (Or.inl rfl)) (av (au (i:=3) (show List.Nodup (["_law_x","_law_y","_law_w","_law_h"]:List Str) by decide +kernel) rfl (Or.inl rfl)) bg)))))) (fun _ _ _=>bV) (fun _ _ _=>(aX (ae (dv 1) (ae (aq bI (hr.mono ⋯) rfl T.iT T.iR T.iW (ae (dv 1) (ae (dv 3) aj))) aj)))) rfl nofun rfl nofun (by walk_at "cl") (dh rfl) rfl (cN trivial)) (ae (dv 2) aj)))) (bE (n:=2) rfl (av (au (i:=6) S.nd rfl (Or.inl rfl)) (av (au (i:=7) S.nd rfl (Or.inl rfl)) bg))))
  (ak (bB (DW.dt (dm (aN IE LJ (dv 4) FR (aI _)) (dA (aN IE LJ (dv 6) FR (aI _))))) (ar (aC d8)) aU)
  (ak (aW (i:=8) S.nd rfl (Or.inl rfl) vD)
  (ak (eS PassesOwn.never rfl (PZ rfl T.QR (ae (dv 4) (ae (dv 6) aj))) (bE (n:=2) rfl (av (au (i:=9) S.nd rfl (Or.inl rfl)) (av (au (i:=10) S.nd rfl (Or.inl rfl)) bg))) (ar (eS PassesOwn.never rfl (rP rfl T.gu (ae (aF (dv 9) ai) (ae (aF (dv 9) ai) aj))) (au (i:=11) S.nd rfl (Or.inl rfl)) (ar (eS PassesOwn.never rfl (rP rfl T.gu (ae (aF (dv 10) ai) (ae (aF (dv 10) ai) aj))) (au (i:=12) S.nd rfl (Or.inl rfl)) (ak (bB (Lx hr.units (aX (ae (dv 11) (ae (dv 12) aj))) (dv 8) (by with_unfolding_all rfl)) (ar (aC d8)) aU)
  (ar (Ct hr.units (dv 8) (aX (ae (dv 11) (ae (dv 12) aj))) d8))))))))
  (ar (aC (d9 (cZ hr.units) bq (HV rfl T.eZ (ae (dv 8) aj)) (bz (dv 5) (dv 7)) (aI _))))))))),fun ds Z Qd h=>yd h⟩)) (fun ds Z Qd h=>wG h)
theorem tS:aH ["d","thing"] ["d","thing"] (ay cC):=by walk_at "s"
theorem sW(T:TX e)(oS:rT e):gh e:=by
 have S:=tS
 exact T.vk.okD S (fun ds Z Q h=>zR h) (fun cdv A outer s H E hr=>⟨gc,(ar (bB (cu (ck (aq oS (hr.mono ⋯) rfl T.Fd T.DM T.Ew (ae (dv 0) (ae (dv 1) aj))))) (ar Fs) aU)),fun ds Z Qd h=>tG h⟩)
theorem uh:aH ["_law_d","_law_thing","_law_width","_law_height","_law_tiles"] ["_law_d","_law_thing"] (ay cI):=by walk_at "s"
theorem sQ(T:TX e)(bM:hE e)(j6:nH e)(k7:pq e):kq e:=by
 have S:=uh
 exact T.vh.okD S (fun ds Z Q h=>zV h) (fun cdv A outer s H E hr=>⟨gC,(ak (bB (DW.dt (dm (cu (ck (jh (kit_tuple _) rfl T.bF rfl T.eD PyProof.Rows.Boot.«tuple» (dv 1)))) (dA (aN (eo hr.units) bq (dD rfl T.eZ (ae (dv 1) aj)) ai (aI _))))) (ar (aC d8)) aU)
  (ak (dz (dv 1) (bE (n:=3) rfl (av (au (i:=2) S.nd rfl (Or.inl rfl)) (av (au (i:=3) S.nd rfl (Or.inl rfl)) (av (au (i:=4) S.nd rfl (Or.inl rfl)) bg)))))
  (ak (bB (DW.dt (dm (cu (ck (aq bM (hr.mono ⋯) rfl T.fg T.fk T.ff (ae (dv 0) (ae (dv 2) aj))))) (dA (cu (ck (aq bM (hr.mono ⋯) rfl T.fg T.fk T.ff (ae (dv 0) (ae (dv 3) aj)))))))) (ar (aC d8)) aU)
  (ak (bB (DW.dt (dm (cu (ck (jh (kit_tuple _) rfl T.bF rfl T.eD PyProof.Rows.Boot.«tuple» (dv 4)))) (dA (cu (K2 ID ej ID ej ai (dD rfl T.eZ (ae (dv 4) aj)) ai))))) (ar (aC d8)) aU)
  (ar (aC (ja (BB rfl rfl T.HR (ae (eX (N':=["_law_tile","_law_d"]) (cap:=[none,some 0]) rfl (Aa (gT (dv 4))) (fun _ _ _=>(au (i:=0) (show List.Nodup (["_law_tile","_law_d"]:List Str) by decide +kernel) rfl (Or.inl rfl))) (fun _ _ _=>bV) (fun _ _ _=>(aq j6 (hr.mono ⋯) rfl T.yI T.zc T.yG (ae (dv 1) (ae (dv 0) aj)))) rfl nofun rfl nofun (by walk_at "cl") (dh rfl) rfl (cN ⟨vd,trivial⟩)) aj)) (jV (aq k7 (hr.mono ⋯) rfl T.zH T.Aj T.Af (ae (dv 0) (ae (dv 2) (ae (dv 3) (ae (dv 4) aj))))))))))))),fun ds Z Qd h=>uc h⟩)
theorem Jh:aH ["d","laying","width","height","tiles"] ["d","laying"] (ay lF):=by walk_at "s"
theorem Jq(T:TX e)(cG:gh e)(k0:ou e):AQ e:=by
 have S:=Jh
 exact T.L9.okD S (fun ds Z Q h=>CZ h) (fun cdv A outer s H E hr=>⟨uN,(ak (iG (aq cG (hr.mono ⋯) rfl T.lU T.lE T.lT (ae (dv 0) (ae (dv 1) aj))))
  (ak (dz (dv 1) (bE (n:=3) rfl (av (au (i:=2) S.nd rfl (Or.inl rfl)) (av (au (i:=3) S.nd rfl (Or.inr rfl)) (av (au (i:=4) S.nd rfl (Or.inl rfl)) bg)))))
  (ar (aC (aX (ae (dv 3) (ae (dv 2) (ae (o7 rfl T.eD (ae (eX (N':=["tile","height"]) (cap:=[none,some 3]) rfl (Aa (gT (dv 4))) (fun _ _ _=>(au (i:=0) (show List.Nodup (["tile","height"]:List Str) by decide +kernel) rfl (Or.inl rfl))) (fun _ _ _=>bV) (fun _ _ _=>(aq k0 (hr.mono ⋯) rfl T.Aw T.Av T.As (ae (dv 1) (ae (dv 0) aj)))) rfl nofun rfl nofun (by walk_at "cl") (dh rfl) rfl (cN ⟨vd,trivial⟩)) aj)) aj)))))))),fun ds Z Qd h=>JT h⟩)
theorem ET:aH ["d","laying","width","height","tiles"] ["d","laying"] (ay gX):=by walk_at "s"
theorem En(T:TX e)(cG:gh e)(i6:lV e):vI e:=by
 have S:=ET
 exact T.Gs.okD S (fun ds Z Q h=>ze h) (fun cdv A outer s H E hr=>⟨oV,(ak (iG (aq cG (hr.mono ⋯) rfl T.lU T.lE T.lT (ae (dv 0) (ae (dv 1) aj))))
  (ak (dz (dv 1) (bE (n:=3) rfl (av (au (i:=2) S.nd rfl (Or.inr rfl)) (av (au (i:=3) S.nd rfl (Or.inl rfl)) (av (au (i:=4) S.nd rfl (Or.inl rfl)) bg)))))
  (ar (aC (aX (ae (dv 2) (ae (dv 3) (ae (o7 rfl T.eD (ae (eX (N':=["tile","width"]) (cap:=[none,some 2]) rfl (Aa (gT (dv 4))) (fun _ _ _=>(au (i:=0) (show List.Nodup (["tile","width"]:List Str) by decide +kernel) rfl (Or.inl rfl))) (fun _ _ _=>bV) (fun _ _ _=>(aq i6 (hr.mono ⋯) rfl T.wD T.wR T.wq (ae (dv 1) (ae (dv 0) aj)))) rfl nofun rfl nofun (by walk_at "cl") (dh rfl) rfl (cN ⟨vd,trivial⟩)) aj)) aj)))))))),fun ds Z Qd h=>DH h⟩)
theorem Pw:aH ["_law_script","_law_k","_law_bag_here","_law_d","_law_laying_here","_law_row","_law_turn","_law_other"] ["_law_script"] (ay qu):=by walk_at "s"
theorem Qa(T:TX e)(qF:vY e)(pK:uo e)(kN:oA e)(nZ:AQ e)(d7:gQ e)(eM:kq e)(jF:vI e)(gE:jR e):L4 e:=by
 have S:=Pw
 exact T.QX.okD S (fun ds Z Q h=>Jl h) (fun cdv A outer s H E hr=>⟨GW,(ak (eS PassesOwn.never rfl (p4 rfl T.gu (ae (Oq rfl rfl T.RN (ae ai (ae (FU rfl rfl T.LB (ae ai (ae (dD rfl T.eZ (ae (dv 0) aj)) aj))) aj))) aj)) (au (i:=1) S.nd rfl (Or.inl rfl)) (ak (aW (i:=2) S.nd rfl (Or.inl rfl) (aq qF (hr.mono ⋯) rfl T.Gx T.GJ T.FE (ae (dv 0) (ae (dv 1) aj))))
  (ak (aW (i:=3) S.nd rfl (Or.inl rfl) (aq pK (hr.mono ⋯) rfl T.EJ T.E7 T.Eo (ae (dv 2) aj)))
  (ak (aW (i:=4) S.nd rfl (Or.inl rfl) (aq kN (hr.mono ⋯) rfl T.Ab T.zX T.zT (ae (dv 2) (ae (dv 3) aj))))
  (ak (aW (i:=5) S.nd rfl (Or.inl rfl) (km (ae (dv 4) aj)))
  (ak (eS PassesOwn.never rfl (p4 rfl T.gu (ae ai aj)) (au (i:=6) S.nd rfl (Or.inl rfl)) (ak (iG (p6 (dv 5) (aq nZ (hr.mono ⋯) rfl T.x6 T.xT T.yQ (ae (dv 3) (ae (aF (dv 5) (ij ai)) aj)))))
  (ar (bB (DW.dt (dm (aN (eo hr.units) bq (aF (dv 5) (ij ai)) (aq d7 (hr.mono ⋯) rfl T.n9 T.oM T.pB (ae (aF (dv 5) (ij ai)) aj)) (aI _)) (dA (cu (ck (aq eM (hr.mono ⋯) rfl T.lW T.lZ T.lM (ae (dv 3) (ae (aF (dv 5) (ij ai)) aj)))))))) (ar (aC d8)) aU))))
  (ak (aW (i:=7) S.nd rfl (Or.inl rfl) (aq jF (hr.mono ⋯) rfl T.rm T.rh T.rp (ae (dv 3) (ae (dv 4) aj))))
  (ak (bB (DW.dt (dm (aN (eo hr.units) bq (aF (dv 5) ai) (dv 4) (aI _)) (dm (aN (eo hr.units) bq (dv 7) (aq gE (hr.mono ⋯) rfl T.ua T.sZ T.tJ (ae (dv 4) aj)) (aI _)) (dA (cu (ck (aq eM (hr.mono ⋯) rfl T.lW T.lZ T.lM (ae (dv 3) (ae (dv 7) aj))))))))) (ar (aC d8)) aU)
  (ar (bB (DW.dt (dm (aN (eo hr.units) bq (aq jF (hr.mono ⋯) rfl T.rm T.rh T.rp (ae (dv 3) (ae (dv 7) aj))) (dv 4) (aI _)) (dm (aN (eo hr.units) bq (aq jF (hr.mono ⋯) rfl T.rm T.rh T.rp (ae (dv 3) (ae (aq nZ (hr.mono ⋯) rfl T.x6 T.xT T.yQ (ae (dv 3) (ae (dv 7) aj))) aj))) (aF (dv 5) ai) (aI _)) (dA (aN (eo hr.units) bq (aq nZ (hr.mono ⋯) rfl T.x6 T.xT T.yQ (ae (dv 3) (ae (dv 4) aj))) (aF (dv 5) ai) (aI _)))))) (ar (aC d8)) aU))))))))))
  (ar (aC d8))),fun ds Z Qd h=>OA h⟩)
theorem O4(T:TX e):L4 e:=by
 have jG:=Dy T
 have eB:=tX T
 have cS:=uZ T
 have gk:=wj T
 have kW:=xF T
 have cA:=zj T
 have cw:=zJ T
 have qF:=EO T
 have aB:=BQ T
 have bH:=CI T
 have oZ:=BE T
 have i8:=vb T
 have cK:=tN T eB
 have g9:=Ge T cS
 have rH:=EI T cS
 have fA:=D3 T cA
 have pK:=Cw T aB
 have i9:=vg T aB
 have nA:=zD T aB
 have gL:=rF T aB
 have kQ:=yN T aB oZ
 have cH:=si T i8 cA
 have d6:=Dq T jG cK
 have mC:=JM T cK
 have kT:=xC T rH
 have bI:=CS T fA
 have kB:=CW T aB fA bH cw
 have bM:=uU T cH bH
 have BX:=bS T mC
 have pE:=aZ T mC
 have bC:=qJ T d6 g9
 have gr:=wu T kT
 have bL:=CY T bI cw
 have j9:=BY T bI
 have jn:=zG T aB kB
 have j6:=wI T cH bH bM
 have mX:=AD T bH bI cw
 have u5:=GN T d6 g9 bC
 have oU:=CG T BX
 have k0:=yT T pE
 have i6:=uu T pE
 have jz:=An T j9 jn nA bL
 have d7:=nQ T bL
 have j5:=wA T mX
 have gE:=rL T bL
 have rg:=D4 T bC u5
 have kN:=yM T aB i9 jz gL kQ
 have jo:=zZ T j5
 have oS:=BR T rg oU gr gk kW
 have k7:=xo T jo bI
 have cG:=sW T oS
 have eM:=sQ T bM j6 k7
 have nZ:=Jq T cG k0
 have jF:=En T cG i6
 exact Qa T qF pK kN nZ d7 eM jF gE
end
theorem all_mk{l:PySem.W.OpenLaw}{w:World}{K:PySem.W.Frag}{h:Heap}{mg:Str->Option Value}{fa:Addr}(X:K.In h)(G:h.Ns mainGlobals mg)(hfa:mg "law"=some (.ref fa))
  {f0 c0 f1 c1 f2 c2 f3 c3 f4 c4 f5 c5 f6 c6 f7 c7 f8 c8 f9 c9 f10 c10 f11 c11 f12 c12 f13 c13 f14 c14 f15 c15 f16 c16 f17 c17 f18 c18 f19 c19 f20 c20 f21 c21 f22 c22 f23 c23 f24 c24 f25 c25 f26 c26 f27 c27 f28 c28 f29 c29 f30 c30 f31 c31 f32 c32 f33 c33 f34 c34 f35 c35 f36 c36 f37 c37 f38 c38 f39 c39 f40 c40 f41 c41 f42 c42 f43 c43 f44 c44 f45 c45 f46 c46 f47 c47 f48 c48 f49 c49 f50 c50 f51 c51 f52 c52 f53 c53 f54 c54:Addr} {t0 t1 t2 t3 t4 t5 t6 t7 t8 t9 t10 t11 t12 t13 t14 t15 t16 t17 t18 t19 t20 t21 t22 t23 t24 t25 t26 t27 t28 t29 t30 t31 t32 t33 t34 t35 t36 t37 t38 t39 t40 t41 t42 t43 t44 t45 t46 t47 t48 t49 t50 t51 t52 t53 t54:Tok} {m0 m1 m2 m3 m4 m5 m6 m7 m8 m9 m10 m11 m12 m13 m14 m15 m16 m17 m18 m19 m20 m21 m22 m23 m24 m25 m26 m27 m28 m29 m30 m31 m32 m33 m34 m35 m36 m37 m38 m39 m40 m41 m42 m43 m44 m45 m46 m47 m48 m49 m50 m51 m52 m53 m54:Str} {q0:Tok} {g1:Addr} {go1:Option Addr} {q1a q1b q1c:Tok} {gn1:Nat} {gs1:Array (Option Value)}
  (a0:FQ K "is_whole" hZ f0 c0 t0 m0)
  (a1:FQ K "common_divisor" cJ f1 c1 t1 m1)
  (a2:FQ K "is_number" fT f2 c2 t2 m2)
  (a3:FQ K "divisor_of_all" cE f3 c3 t3 m3)
  (a4:FQ K "number" mj f4 c4 t4 m4)
  (a5:FQ K "plus" vf f5 c5 t5 m5)
  (a6:FQ K "less" vG f6 c6 t6 m6)
  (a7:FQ K "sign_of" jB f7 c7 t7 m7)
  (a8:FQ K "sign_of_parts" cT f8 c8 t8 m8)
  (a9:FQ K "is_above" g0 f9 c9 t9 m9)
  (a10:FQ K "is_above_nought" cj f10 c10 t10 m10)
  (a11:FQ K "is_tile" jD f11 c11 t11 m11)
  (a12:FQ K "has_form" gW f12 c12 t12 m12)
  (a13:FQ K "bounds_of" fN f13 c13 t13 m13)
  (a14:FQ K "place_among" dQ f14 c14 t14 m14)
  (a15:FQ K "rising_marks" di f15 c15 t15 m15)
  (a16:FQ K "reaches_just" df f16 c16 t16 m16)
  (a17:FQ K "covers_once" dM f17 c17 t17 m17)
  (a18:FQ K "is_laying" fV f18 c18 t18 m18)
  (a19:FQ K "must_be_laying" cC f19 c19 t19 m19)
  (a20:FQ K "turned" lF f20 c20 t20 m20)
  (a21:FQ K "turned_tile" dG f21 c21 t21 m21)
  (a22:FQ K "mirrored" gX f22 c22 t22 m22)
  (a23:FQ K "mirrored_tile" cQ f23 c23 t23 m23)
  (a24:FQ K "_law_less" fU f24 c24 t24 m24)
  (a25:FQ K "_law_plus" fY f25 c25 t25 m25)
  (a26:FQ K "_law_low" il f26 c26 t26 m26)
  (a27:FQ K "_law_shared" dJ f27 c27 t27 m27)
  (a28:FQ K "_law_minus" eI f28 c28 t28 m28)
  (a29:FQ K "_law_bag" hU f29 c29 t29 m29)
  (a30:FQ K "_law_root" fR f30 c30 t30 m30)
  (a31:FQ K "_law_take" fS f31 c31 t31 m31)
  (a32:FQ K "_law_laying" dH f32 c32 t32 m32)
  (a33:FQ K "_law_pinwheel" cU f33 c33 t33 m33)
  (a34:FQ K "_law_floor" eA f34 c34 t34 m34)
  (a35:FQ K "_law_ends" fM f35 c35 t35 m35)
  (a36:FQ K "_law_sides" eC f36 c36 t36 m36)
  (a37:FQ K "_law_side" fH f37 c37 t37 m37)
  (a38:FQ K "_law_sign" fX f38 c38 t38 m38)
  (a39:FQ K "_law_mixed" eK f39 c39 t39 m39)
  (a40:FQ K "_law_many_cells" cg f40 c40 t40 m40)
  (a41:FQ K "_law_blocks" dI f41 c41 t41 m41)
  (a42:FQ K "_law_room" fW f42 c42 t42 m42)
  (a43:FQ K "_law_turned_laying" bG f43 c43 t43 m43)
  (a44:FQ K "_law_is_laying" cI f44 c44 t44 m44)
  (a45:FQ K "_law_is_above" cP f45 c45 t45 m45)
  (a46:FQ K "_law_is_number" cD f46 c46 t46 m46)
  (a47:FQ K "_law_is_whole" cR f47 c47 t47 m47)
  (a48:FQ K "_law_is_tile" dg f48 c48 t48 m48)
  (a49:FQ K "_law_covers" dR f49 c49 t49 m49)
  (a50:FQ K "_law_spans" eG f50 c50 t50 m50)
  (a51:FQ K "_law_ordered" dj f51 c51 t51 m51)
  (a52:FQ K "_law_below" eO f52 c52 t52 m52)
  (a53:FQ K "_law_left_right" bZ f53 c53 t53 m53)
  (a54:FQ K "law" qu f54 c54 t54 m54)
  (z0:nsIn K mainGlobals "isinstance"=some none)
  (z1:nsIn K mainGlobals "int"=some none)
  (z2:nsIn K mainGlobals "bool"=some none)
  (z3:nsIn K mainGlobals "abs"=some none)
  (z4:nsIn K mainGlobals "tuple"=some none)
  (z5:nsIn K mainGlobals "len"=some none)
  (z6:nsIn K mainGlobals "all"=some none)
  (z7:nsIn K mainGlobals "set"=some none)
  (z8:nsIn K mainGlobals "range"=some none)
  (z9:nsIn K mainGlobals "enumerate"=some none)
  (z10:nsIn K mainGlobals "list"=some none)
  (z11:nsIn K mainGlobals "min"=some none)
  (z12:nsIn K mainGlobals "zip"=some none)
  (z13:nsIn K mainGlobals "max"=some none)
  (v0:nsIn K mainGlobals "MOST_TILES"=some (some (.int 60 q0)))
  (v1:nsIn K mainGlobals "NOUGHT"=some (some (.ref g1))) (w1:K.lookup g1=some ⟨.type "tuple",go1,.seq #[.int 0 q1a,.int 0 q1b,.int 1 q1c] gn1,gs1⟩) :
  ∃fd:FuncData,(∀(s:Shared) (v:Value),BindsTo s fd ⟨[v],[]⟩ [("_law_script",v)])/\∀base:Heap,K.In base->base.Ns mainGlobals mg->br l.prog w K mg base CX0 10 fa fd ["_law_script"] (spD K x8):=by
 have e:=hfa.symm.trans (mg_of X G a54.1)
 cases e
 have F0:=aT (st:=hZ) a0.2.1 a0.2.2.1 a0.2.2.2
 have b0:=F0.binds (ps:=["thing"]) fun _ _ _ _ _ _=>ln1 fun _=>rfl
 have F1:=aT (st:=cJ) a1.2.1 a1.2.2.1 a1.2.2.2
 have b1:=F1.binds (ps:=["a","b"]) fun _ _ _ _ _ _=>ln2 fun _ _=>rfl
 have F2:=aT (st:=fT) a2.2.1 a2.2.2.1 a2.2.2.2
 have b2:=F2.binds (ps:=["thing"]) fun _ _ _ _ _ _=>ln1 fun _=>rfl
 have F3:=aT (st:=cE) a3.2.1 a3.2.2.1 a3.2.2.2
 have b3:=F3.binds (ps:=["a","b","c"]) fun _ _ _ _ _ _=>ln3 fun _ _ _=>rfl
 have F4:=aT (st:=mj) a4.2.1 a4.2.2.1 a4.2.2.2
 have b4:=F4.binds (ps:=["a","b","c"]) fun _ _ _ _ _ _=>ln3 fun _ _ _=>rfl
 have F5:=aT (st:=vf) a5.2.1 a5.2.2.1 a5.2.2.2
 have b5:=F5.binds (ps:=["x","y"]) fun _ _ _ _ _ _=>ln2 fun _ _=>rfl
 have F6:=aT (st:=vG) a6.2.1 a6.2.2.1 a6.2.2.2
 have b6:=F6.binds (ps:=["x","y"]) fun _ _ _ _ _ _=>ln2 fun _ _=>rfl
 have F7:=aT (st:=jB) a7.2.1 a7.2.2.1 a7.2.2.2
 have b7:=F7.binds (ps:=["d","x"]) fun _ _ _ _ _ _=>ln2 fun _ _=>rfl
 have F8:=aT (st:=cT) a8.2.1 a8.2.2.1 a8.2.2.2
 have b8:=F8.binds (ps:=["d","a","b"]) fun _ _ _ _ _ _=>ln3 fun _ _ _=>rfl
 have F9:=aT (st:=g0) a9.2.1 a9.2.2.1 a9.2.2.2
 have b9:=F9.binds (ps:=["d","x","y"]) fun _ _ _ _ _ _=>ln3 fun _ _ _=>rfl
 have F10:=aT (st:=cj) a10.2.1 a10.2.2.1 a10.2.2.2
 have b10:=F10.binds (ps:=["d","thing"]) fun _ _ _ _ _ _=>ln2 fun _ _=>rfl
 have F11:=aT (st:=jD) a11.2.1 a11.2.2.1 a11.2.2.2
 have b11:=F11.binds (ps:=["d","thing"]) fun _ _ _ _ _ _=>ln2 fun _ _=>rfl
 have F12:=aT (st:=gW) a12.2.1 a12.2.2.1 a12.2.2.2
 have b12:=F12.binds (ps:=["d","thing"]) fun _ _ _ _ _ _=>ln2 fun _ _=>rfl
 have F13:=aT (st:=fN) a13.2.1 a13.2.2.1 a13.2.2.2
 have b13:=F13.binds (ps:=["tile"]) fun _ _ _ _ _ _=>ln1 fun _=>rfl
 have F14:=aT (st:=dQ) a14.2.1 a14.2.2.1 a14.2.2.2
 have b14:=F14.binds (ps:=["d","marks","x"]) fun _ _ _ _ _ _=>ln3 fun _ _ _=>rfl
 have F15:=aT (st:=di) a15.2.1 a15.2.2.1 a15.2.2.2
 have b15:=F15.binds (ps:=["d","found"]) fun _ _ _ _ _ _=>ln2 fun _ _=>rfl
 have F16:=aT (st:=df) a16.2.1 a16.2.2.1 a16.2.2.2
 have b16:=F16.binds (ps:=["marks","end"]) fun _ _ _ _ _ _=>ln2 fun _ _=>rfl
 have F17:=aT (st:=dM) a17.2.1 a17.2.2.1 a17.2.2.2
 have b17:=F17.binds (ps:=["bounds","across","upward"]) fun _ _ _ _ _ _=>ln3 fun _ _ _=>rfl
 have F18:=aT (st:=fV) a18.2.1 a18.2.2.1 a18.2.2.2
 have b18:=F18.binds (ps:=["d","thing"]) fun _ _ _ _ _ _=>ln2 fun _ _=>rfl
 have F19:=aT (st:=cC) a19.2.1 a19.2.2.1 a19.2.2.2
 have b19:=F19.binds (ps:=["d","thing"]) fun _ _ _ _ _ _=>ln2 fun _ _=>rfl
 have F20:=aT (st:=lF) a20.2.1 a20.2.2.1 a20.2.2.2
 have b20:=F20.binds (ps:=["d","laying"]) fun _ _ _ _ _ _=>ln2 fun _ _=>rfl
 have F21:=aT (st:=dG) a21.2.1 a21.2.2.1 a21.2.2.2
 have b21:=F21.binds (ps:=["floor_height","tile"]) fun _ _ _ _ _ _=>ln2 fun _ _=>rfl
 have F22:=aT (st:=gX) a22.2.1 a22.2.2.1 a22.2.2.2
 have b22:=F22.binds (ps:=["d","laying"]) fun _ _ _ _ _ _=>ln2 fun _ _=>rfl
 have F23:=aT (st:=cQ) a23.2.1 a23.2.2.1 a23.2.2.2
 have b23:=F23.binds (ps:=["floor_width","tile"]) fun _ _ _ _ _ _=>ln2 fun _ _=>rfl
 have F24:=aT (st:=fU) a24.2.1 a24.2.2.1 a24.2.2.2
 have b24:=F24.binds (ps:=["_law_x","_law_y"]) fun _ _ _ _ _ _=>ln2 fun _ _=>rfl
 have F25:=aT (st:=fY) a25.2.1 a25.2.2.1 a25.2.2.2
 have b25:=F25.binds (ps:=["_law_x","_law_y"]) fun _ _ _ _ _ _=>ln2 fun _ _=>rfl
 have F26:=aT (st:=il) a26.2.1 a26.2.2.1 a26.2.2.2
 have b26:=F26.binds (ps:=["_law_a","_law_b","_law_c"]) fun _ _ _ _ _ _=>ln3 fun _ _ _=>rfl
 have F27:=aT (st:=dJ) a27.2.1 a27.2.2.1 a27.2.2.2
 have b27:=F27.binds (ps:=["_law_one","_law_other"]) fun _ _ _ _ _ _=>ln2 fun _ _=>rfl
 have F28:=aT (st:=eI) a28.2.1 a28.2.2.1 a28.2.2.2
 have b28:=F28.binds (ps:=["_law_x"]) fun _ _ _ _ _ _=>ln1 fun _=>rfl
 have F29:=aT (st:=hU) a29.2.1 a29.2.2.1 a29.2.2.2
 have b29:=F29.binds (ps:=["_law_script","_law_at"]) fun _ _ _ _ _ _=>ln2 fun _ _=>rfl
 have F30:=aT (st:=fR) a30.2.1 a30.2.2.1 a30.2.2.2
 have b30:=F30.binds (ps:=["_law_bag_here"]) fun _ _ _ _ _ _=>ln1 fun _=>rfl
 have F31:=aT (st:=fS) a31.2.1 a31.2.2.1 a31.2.2.2
 have b31:=F31.binds (ps:=["_law_bag_here","_law_many"]) fun _ _ _ _ _ _=>ln2 fun _ _=>rfl
 have F32:=aT (st:=dH) a32.2.1 a32.2.2.1 a32.2.2.2
 have b32:=F32.binds (ps:=["_law_bag_here","_law_d"]) fun _ _ _ _ _ _=>ln2 fun _ _=>rfl
 have F33:=aT (st:=cU) a33.2.1 a33.2.2.1 a33.2.2.2
 have b33:=F33.binds (ps:=["_law_bag_here"]) fun _ _ _ _ _ _=>ln1 fun _=>rfl
 have F34:=aT (st:=eA) a34.2.1 a34.2.2.1 a34.2.2.2
 have b34:=F34.binds (ps:=["_law_bag_here","_law_d","_law_columns","_law_rows","_law_blocks_here"]) fun _ _ _ _ _ _=>ln5 fun _ _ _ _ _=>rfl
 have F35:=aT (st:=fM) a35.2.1 a35.2.2.1 a35.2.2.2
 have b35:=F35.binds (ps:=["_law_sides_here"]) fun _ _ _ _ _ _=>ln1 fun _=>rfl
 have F36:=aT (st:=eC) a36.2.1 a36.2.2.1 a36.2.2.2
 have b36:=F36.binds (ps:=["_law_bag_here","_law_d","_law_many"]) fun _ _ _ _ _ _=>ln3 fun _ _ _=>rfl
 have F37:=aT (st:=fH) a37.2.1 a37.2.2.1 a37.2.2.2
 have b37:=F37.binds (ps:=["_law_bag_here","_law_d","_law_way"]) fun _ _ _ _ _ _=>ln3 fun _ _ _=>rfl
 have F38:=aT (st:=fX) a38.2.1 a38.2.2.1 a38.2.2.2
 have b38:=F38.binds (ps:=["_law_d","_law_x"]) fun _ _ _ _ _ _=>ln2 fun _ _=>rfl
 have F39:=aT (st:=eK) a39.2.1 a39.2.2.1 a39.2.2.2
 have b39:=F39.binds (ps:=["_law_bag_here","_law_row"]) fun _ _ _ _ _ _=>ln2 fun _ _=>rfl
 have F40:=aT (st:=cg) a40.2.1 a40.2.2.1 a40.2.2.2
 have b40:=F40.binds (ps:=["_law_bag_here"]) fun _ _ _ _ _ _=>ln1 fun _=>rfl
 have F41:=aT (st:=dI) a41.2.1 a41.2.2.1 a41.2.2.2
 have b41:=F41.binds (ps:=["_law_bag_here","_law_columns","_law_rows"]) fun _ _ _ _ _ _=>ln3 fun _ _ _=>rfl
 have F42:=aT (st:=fW) a42.2.1 a42.2.2.1 a42.2.2.2
 have b42:=F42.binds (ps:=["_law_met","_law_column","_law_row","_law_columns"]) fun _ _ _ _ _ _=>ln4 fun _ _ _ _=>rfl
 have F43:=aT (st:=bG) a43.2.1 a43.2.2.1 a43.2.2.2
 have b43:=F43.binds (ps:=["_law_laying_here"]) fun _ _ _ _ _ _=>ln1 fun _=>rfl
 have F44:=aT (st:=cI) a44.2.1 a44.2.2.1 a44.2.2.2
 have b44:=F44.binds (ps:=["_law_d","_law_thing"]) fun _ _ _ _ _ _=>ln2 fun _ _=>rfl
 have F45:=aT (st:=cP) a45.2.1 a45.2.2.1 a45.2.2.2
 have b45:=F45.binds (ps:=["_law_d","_law_thing"]) fun _ _ _ _ _ _=>ln2 fun _ _=>rfl
 have F46:=aT (st:=cD) a46.2.1 a46.2.2.1 a46.2.2.2
 have b46:=F46.binds (ps:=["_law_thing"]) fun _ _ _ _ _ _=>ln1 fun _=>rfl
 have F47:=aT (st:=cR) a47.2.1 a47.2.2.1 a47.2.2.2
 have b47:=F47.binds (ps:=["_law_thing"]) fun _ _ _ _ _ _=>ln1 fun _=>rfl
 have F48:=aT (st:=dg) a48.2.1 a48.2.2.1 a48.2.2.2
 have b48:=F48.binds (ps:=["_law_d","_law_thing"]) fun _ _ _ _ _ _=>ln2 fun _ _=>rfl
 have F49:=aT (st:=dR) a49.2.1 a49.2.2.1 a49.2.2.2
 have b49:=F49.binds (ps:=["_law_d","_law_width","_law_height","_law_tiles"]) fun _ _ _ _ _ _=>ln4 fun _ _ _ _=>rfl
 have F50:=aT (st:=eG) a50.2.1 a50.2.2.1 a50.2.2.2
 have b50:=F50.binds (ps:=["_law_d","_law_ends_here","_law_most"]) fun _ _ _ _ _ _=>ln3 fun _ _ _=>rfl
 have F51:=aT (st:=dj) a51.2.1 a51.2.2.1 a51.2.2.2
 have b51:=F51.binds (ps:=["_law_d","_law_row"]) fun _ _ _ _ _ _=>ln2 fun _ _=>rfl
 have F52:=aT (st:=eO) a52.2.1 a52.2.2.1 a52.2.2.2
 have b52:=F52.binds (ps:=["_law_d","_law_x","_law_y"]) fun _ _ _ _ _ _=>ln3 fun _ _ _=>rfl
 have F53:=aT (st:=bZ) a53.2.1 a53.2.2.1 a53.2.2.2
 have b53:=F53.binds (ps:=["_law_laying_here"]) fun _ _ _ _ _ _=>ln1 fun _=>rfl
 have F54:=aT (st:=qu) a54.2.1 a54.2.2.1 a54.2.2.2
 have b54:=F54.binds (ps:=["_law_script"]) fun _ _ _ _ _ _=>ln1 fun _=>rfl
 have T:Txt K mg ⟨f0,fd "is_whole" hZ t0 m0 c0,f1,fd "common_divisor" cJ t1 m1 c1,f2,fd "is_number" fT t2 m2 c2,f3,fd "divisor_of_all" cE t3 m3 c3,f4,fd "number" mj t4 m4 c4,f5,fd "plus" vf t5 m5 c5,f6,fd "less" vG t6 m6 c6,f7,fd "sign_of" jB t7 m7 c7,f8,fd "sign_of_parts" cT t8 m8 c8,f9,fd "is_above" g0 t9 m9 c9,f10,fd "is_above_nought" cj t10 m10 c10,f11,fd "is_tile" jD t11 m11 c11,f12,fd "has_form" gW t12 m12 c12,f13,fd "bounds_of" fN t13 m13 c13,f14,fd "place_among" dQ t14 m14 c14,f15,fd "rising_marks" di t15 m15 c15,f16,fd "reaches_just" df t16 m16 c16,f17,fd "covers_once" dM t17 m17 c17,f18,fd "is_laying" fV t18 m18 c18,f19,fd "must_be_laying" cC t19 m19 c19,f20,fd "turned" lF t20 m20 c20,f21,fd "turned_tile" dG t21 m21 c21,f22,fd "mirrored" gX t22 m22 c22,f23,fd "mirrored_tile" cQ t23 m23 c23,f24,fd "_law_less" fU t24 m24 c24,f25,fd "_law_plus" fY t25 m25 c25,f26,fd "_law_low" il t26 m26 c26,f27,fd "_law_shared" dJ t27 m27 c27,f28,fd "_law_minus" eI t28 m28 c28,f29,fd "_law_bag" hU t29 m29 c29,f30,fd "_law_root" fR t30 m30 c30,f31,fd "_law_take" fS t31 m31 c31,f32,fd "_law_laying" dH t32 m32 c32,f33,fd "_law_pinwheel" cU t33 m33 c33,f34,fd "_law_floor" eA t34 m34 c34,f35,fd "_law_ends" fM t35 m35 c35,f36,fd "_law_sides" eC t36 m36 c36,f37,fd "_law_side" fH t37 m37 c37,f38,fd "_law_sign" fX t38 m38 c38,f39,fd "_law_mixed" eK t39 m39 c39,f40,fd "_law_many_cells" cg t40 m40 c40,f41,fd "_law_blocks" dI t41 m41 c41,f42,fd "_law_room" fW t42 m42 c42,f43,fd "_law_turned_laying" bG t43 m43 c43,f44,fd "_law_is_laying" cI t44 m44 c44,f45,fd "_law_is_above" cP t45 m45 c45,f46,fd "_law_is_number" cD t46 m46 c46,f47,fd "_law_is_whole" cR t47 m47 c47,f48,fd "_law_is_tile" dg t48 m48 c48,f49,fd "_law_covers" dR t49 m49 c49,f50,fd "_law_spans" eG t50 m50 c50,f51,fd "_law_ordered" dj t51 m51 c51,f52,fd "_law_below" eO t52 m52 c52,f53,fd "_law_left_right" bZ t53 m53 c53,fa,fd "law" qu t54 m54 c54,q0,g1⟩:=⟨F0,mg_of X G a0.1,a0.2.2.2,b0,F1,mg_of X G a1.1,a1.2.2.2,b1,F2,mg_of X G a2.1,a2.2.2.2,b2,F3,mg_of X G a3.1,a3.2.2.2,b3,F4,mg_of X G a4.1,a4.2.2.2,b4,F5,mg_of X G a5.1,a5.2.2.2,b5,F6,mg_of X G a6.1,a6.2.2.2,b6,F7,mg_of X G a7.1,a7.2.2.2,b7,F8,mg_of X G a8.1,a8.2.2.2,b8,F9,mg_of X G a9.1,a9.2.2.2,b9,F10,mg_of X G a10.1,a10.2.2.2,b10,F11,mg_of X G a11.1,a11.2.2.2,b11,F12,mg_of X G a12.1,a12.2.2.2,b12,F13,mg_of X G a13.1,a13.2.2.2,b13,F14,mg_of X G a14.1,a14.2.2.2,b14,F15,mg_of X G a15.1,a15.2.2.2,b15,F16,mg_of X G a16.1,a16.2.2.2,b16,F17,mg_of X G a17.1,a17.2.2.2,b17,F18,mg_of X G a18.1,a18.2.2.2,b18,F19,mg_of X G a19.1,a19.2.2.2,b19,F20,mg_of X G a20.1,a20.2.2.2,b20,F21,mg_of X G a21.1,a21.2.2.2,b21,F22,mg_of X G a22.1,a22.2.2.2,b22,F23,mg_of X G a23.1,a23.2.2.2,b23,F24,mg_of X G a24.1,a24.2.2.2,b24,F25,mg_of X G a25.1,a25.2.2.2,b25,F26,mg_of X G a26.1,a26.2.2.2,b26,F27,mg_of X G a27.1,a27.2.2.2,b27,F28,mg_of X G a28.1,a28.2.2.2,b28,F29,mg_of X G a29.1,a29.2.2.2,b29,F30,mg_of X G a30.1,a30.2.2.2,b30,F31,mg_of X G a31.1,a31.2.2.2,b31,F32,mg_of X G a32.1,a32.2.2.2,b32,F33,mg_of X G a33.1,a33.2.2.2,b33,F34,mg_of X G a34.1,a34.2.2.2,b34,F35,mg_of X G a35.1,a35.2.2.2,b35,F36,mg_of X G a36.1,a36.2.2.2,b36,F37,mg_of X G a37.1,a37.2.2.2,b37,F38,mg_of X G a38.1,a38.2.2.2,b38,F39,mg_of X G a39.1,a39.2.2.2,b39,F40,mg_of X G a40.1,a40.2.2.2,b40,F41,mg_of X G a41.1,a41.2.2.2,b41,F42,mg_of X G a42.1,a42.2.2.2,b42,F43,mg_of X G a43.1,a43.2.2.2,b43,F44,mg_of X G a44.1,a44.2.2.2,b44,F45,mg_of X G a45.1,a45.2.2.2,b45,F46,mg_of X G a46.1,a46.2.2.2,b46,F47,mg_of X G a47.1,a47.2.2.2,b47,F48,mg_of X G a48.1,a48.2.2.2,b48,F49,mg_of X G a49.1,a49.2.2.2,b49,F50,mg_of X G a50.1,a50.2.2.2,b50,F51,mg_of X G a51.1,a51.2.2.2,b51,F52,mg_of X G a52.1,a52.2.2.2,b52,F53,mg_of X G a53.1,a53.2.2.2,b53,F54,mg_of X G a54.1,a54.2.2.2,b54,mg_none_of X G z0,mg_none_of X G z1,mg_none_of X G z2,mg_none_of X G z3,mg_none_of X G z4,mg_none_of X G z5,mg_none_of X G z6,mg_none_of X G z7,mg_none_of X G z8,mg_none_of X G z9,mg_none_of X G z10,mg_none_of X G z11,mg_none_of X G z12,mg_none_of X G z13,mg_of X G v0,⟨mg_of X G v1,⟨_,_,_,_,_,_,w1⟩⟩⟩
 exact⟨_,fun s v=>.of_eq rfl,fun base _ _=>O4 (e:=⟨l.prog,w,K,mg,base,_⟩) T⟩
theorem walk{l:PySem.W.OpenLaw}{q:Program}{loose:List Str}{XP:(Str->Option Value)->Heap->Prop}{YP:World->Heap->Prop}{d:DefRec}{K:Params->PySem.W.Frag}(tabs:List Addr)(hn:l.most=some 63)(hdf:d.params.defaults=[])
  (hY:∀(w:World) (h:Heap),YP w h->(K w.params).In h/\(∀p∈tabs,h.get? p=some (PySem.W.tabObj #[])/\(K w.params).lookup p=none)/\(∀p∈tabs,isCodeTable h p))
  (hA2:∀(w:World) c o p q,(K w.params).lookup c=some o->dZ o=some (p,q)->p∈tabs)
  (F:∀(w:World) (mg:Str->Option Value) (fa:Addr) (h:Heap),(K w.params).In h->h.Ns mainGlobals mg->mg d.name=some (.ref fa) ->
   ∃fd:FuncData,(∀(s:Shared) (u:Value),BindsTo s fd ⟨[u],[]⟩ [("_law_script",u)])/\∀base:Heap,(K w.params).In base->base.Ns mainGlobals mg->br l.prog w (K w.params) mg base CX0 10 fa fd ["_law_script"] (spD (K w.params) x8)) :
  PySem.W.WalkO q loose XP YP l.row.toRowW d [] (fun f vs=>PySem.call f vs):=
 L2.Mg (n:=63) (k:=10) (x:="_law_script") (CX:=fun _=>CX0) (sp:=fun w=>spD (K w.params) x8) tabs hn ⋯ hdf ⟨rfl,⋯,⋯⟩ hY hA2 F (fun w H a ns hl hT hS=>Jc hl hT hS) fun _ _ _ _ _ z=>z
end K11
open PySem PySem.W PyProof.Rows L2.DL in
set_option maxRecDepth 100000 in
set_option maxHeartbeats 0 in
theorem PySem.Challenge.cw_matefloors_k11_turned_and_mirrored_holds : PySem.Challenge.rw_matefloors_k11_turned_and_mirrored.Holds :=
 holds_law K11.H.ws fun said=>holds_open (XP:=XL K11.H.V []) (YP:=K11.H.HK.says) (d:=K11.H.D) (kwd:=[]) K11.H.left K11.H.HK.of K11.H.HK.keeps (fun s e=>xl_of s (Bool.and_eq_true_iff.mp e).1) XL.keeps ⟨⟩ ⟨⟩ ⟨⟩
  (fun s e=>recFacts_of (Bool.and_eq_true_iff.mp e).2) ⟨⟩ said ⟨⟩ ⟨⟨⟩,⟨⟩,⟨⟩,⟨⟩,⟨⟩,⟨⟩⟩ ⟨[.list []],⟨⟩,⟨⟩⟩
  (K11.walk (l:=PySem.Challenge.rw_matefloors_k11_turned_and_mirrored) (K:=K11.H.K) K11.H.tabs ⟨⟩ ⟨⟩ (fun w h Y=>by
   have Y:(K11.H.KF w.params).In h:=Y
   refine⟨Ij Y,fun p hp=>?_,fun p hp=>?_⟩
   ·rcases List.mem_cons.mp hp with rfl|hp
    ·exact⟨Y _ _ (K11.H.IK w.params).1,(K11.H.IK w.params).2⟩
    exact nomatch hp
   ·rcases List.mem_cons.mp hp with rfl|hp
    ·obtain⟨o,e1,e2⟩:=M3 (K11.H.Ke w.params);exact Jy (Ij Y) e1 e2
    exact nomatch hp) (fun w c o p q e e2=>by
   have h:=NZ (K11.H.OW w.params) e e2
   have h2:=mem_map_of_mem (f:=fun x:Addr×Str=>x.1) h
   exact h2) fun w mg fa h KX G hmg=>by
   obtain⟨h0,h1,h2,h3,h4,h5,h6,h7,h8,h9,h10,h11,h12,h13⟩:=K11.H.Qe w.params
   obtain⟨h14,h15,h16,h17,h18,h19,h20,h21,h22,h23,h24,h25,h26,h27⟩:=K11.H.OS w.params
   obtain⟨h28,h29,h30,h31,h32,h33,h34,h35,h36,h37,h38,h39,h40,h41⟩:=K11.H.Qc w.params
   obtain⟨h42,h43,h44,h45,h46,h47,h48,h49,h50,h51,h52,h53,h54,h55⟩:=K11.H.OV w.params
   obtain⟨h56,h57,h58,h59,h60,h61,h62,h63,h64,h65,h66,h67,h68,h69⟩:=K11.H.OJ w.params
   have h70:=K11.H.Pg w.params
   exact K11.all_mk KX G hmg h0 h1 h2 h3 h4 h5 h6 h7 h8 h9 h10 h11 h12 h13 h14 h15 h16 h17 h18 h19 h20 h21 h22 h23 h24 h25 h26 h27 h28 h29 h30 h31 h32 h33 h34 h35 h36 h37 h38 h39 h40 h41 h42 h43 h44 h45 h46 h47 h48 h49 h50 h51 h52 h53 h54 h55 h56 h57 h58 h59 h60 h61 h62 h63 h64 h65 h66 h67 h68 h69 h70.1 h70.2)
