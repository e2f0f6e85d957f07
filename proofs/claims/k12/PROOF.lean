import PyProof.Rows.All
import KE.KFind
import KE.KLam
import KE.KTryMore
import KE.LcSums
import KE.KRevSl
import Lean
import PyProof.DictCompW
import PyProof.DictTable
import PyProof.IsRules
import PyProof.SetKind
import PyProof.TupleKey
import PySem.SetTable
import PyProof.EnumMake
import PyProof.WalksEnum
import PyProof.Rows.SetFrom
import PyProof.SetRoads
import PySem.Challenge.RW_matefloors_k12_stretched_and_put_in
set_option Elab.async false
set_option linter.all false
set_option maxRecDepth 100000
set_option maxHeartbeats 4000000
set_option genSizeOf false
set_option compiler.extract_closed false
set_option bootstrap.genMatcherCode false
local macro_rules|`(‹$q›)=>`({nx:=fun _ y=>$q (.v .none) y,rt:=$q})
set_option genInjectivity false
local macro_rules | `(⋯) => `((by decide))
local macro_rules | `(∅) => `((by omega))
local macro_rules | `(nofun) => `((by decide +kernel))
local macro_rules | `(⟨⟩) => `((by kernel_rfl))
local macro_rules | `(tactic| walk_at "s") => `(tactic| exact ⟨rfl, rfl, rfl, by decide +kernel, rfl, by decide +kernel, by decide +kernel⟩)
local macro_rules | `(tactic| walk_at "b") => `(tactic| (intro _ _ _ _ _ _ us hl; first | exact (match us, hl with | [], _ => rfl) | exact (match us, hl with | [_], _ => rfl) | exact (match us, hl with | [_, _], _ => rfl) | exact (match us, hl with | [_, _, _], _ => rfl) | exact (match us, hl with | [_, _, _, _], _ => rfl) | exact (match us, hl with | [_, _, _, _, _], _ => rfl)))
open PySem.W (fnOf nsIn codeIn keepIn kitOne kia_one excIn findIn mroIn clsIn tabObj kla_fn exmOne mg_of mg_none_of)
open List (map_append map_map take_of_length_le mem_append_left filterMap_cons mem_cons_self mem_cons_of_mem mem_append_right append_nil length_take getElem?_append_right getElem?_append_left getElem?_map mem_of_getElem? length_append length_map size_toArray length_drop replicate_succ flatten_cons append_assoc nil_append map_nil map_cons length_cons getElem_mem getElem?_eq_none mem_append mem_cons getElem?_eq_getElem mem_singleton length_nil mem_map flatMap_cons pairwise_map mem_map_of_mem not_mem_nil lookup_cons cons_append take_length set_cons_zero set_cons_succ take_zero sum_cons take_succ getD_eq_getElem?_getD)
open Int (natAbs_mul le_of_lt eq_of_mul_eq_mul_right mul_ne_zero mul_nonneg lt_or_gt_of_ne mul_pos le_refl)
open Nat (lt_of_lt_of_le ne_of_lt lt_irrefl le_trans pow_succ zero_le le_of_lt_succ lt_or_ge not_lt_zero mul_le_mul lt_or_eq_of_le)
open Bool (false_eq_true and_eq_true xor_false false_xor true_xor)
open Option (bind_some map_some join_some bind_none)
open PySem (mem_of_lookup)
namespace L2
open PySem PySem.W
noncomputable def lB:Sem Fin->Bool
 |.choose ..=>false
 |.os ..=>false
 |_=>true
theorem RR{den:Code->Sem Fin}{p:Program}{w:World}{os:OsState}{s s':Shared}{t t':Thread}(h:lB t.cur=true)(e:step den p ⟨fun _ _=>0,w.params⟩ s t = .go s' t') :
  step den p w {s with os:=os} t = .go {s' with os:=os} t':=by
 obtain⟨heap,gens,drawn,toks,os0⟩:=s
 obtain⟨cur,code,pos,stack⟩:=t
 cases cur<;>simp only[step,finish,lB] at e h ⊢<;>(try (cases h;done))<;>(repeat' split at e)<;>simp_all<;>(try (obtain⟨rfl,rfl⟩:=e;simp_all))<;>(try (obtain⟨h1,h2⟩:=e;subst h1;rfl))
noncomputable def sY(tb:String->Option Builtin)(p:Program)(P:Params)(ld:Nat)(ann:Option Value):Nat->Shared->Thread->Option Shared
 |0,_,_=>none
 |n+1,s,t=>match through t with
  |true=>some s
  |false=>match stepOk ld ann t&&lB t.cur with
   |false=>none
   |true=>match step (denote tb) p ⟨fun _ _=>0,P⟩ s t with
    |.go s' t'=>sY tb p P ld ann n s' t'
    |.halt _ _=>none
theorem zZ{tb:String->Option Builtin}{p:Program}{w:World}{ld:Nat}{ann:Option Value}{os:OsState}:∀{n:Nat} {s s':Shared} {t:Thread},sY tb p w.params ld ann n s t=some s'->topRun tb p w ld ann n {s with os:=os} t=some {s' with os:=os}
 |0,_,_,_,h=>by cases h
 |n+1,s,s',t,h=>by
  unfold sY at h
  unfold topRun
  cases ht:through t with
  |true=>rw[ht] at h;cases h;rfl
  |false=>
   rw[ht] at h
   cases hk:(stepOk ld ann t&&lB t.cur) with
   |false=>rw[hk] at h;cases h
   |true=>
    rw[hk] at h
    obtain⟨k1,k2⟩:=Bool.and_eq_true_iff.mp hk
    cases hs:step (denote tb) p ⟨fun _ _=>0,w.params⟩ s t with
    |halt o jp=>rw[hs] at h;cases h
    |go jp wv=>
     rw[hs] at h
     rw[k1,RR (os:=os) k2 hs]
     exact zZ h
noncomputable def xj(p:Program)(P:Params)(ld:Nat)(ann:Option Value):Nat->Shared->Thread->Option Shared
 |0,_,_=>none
 |n+1,s,t=>match through t with
  |true=>some s
  |false=>match Fast.tw6613529449190102663 ld ann t&&lB t.cur with
   |false=>none
   |true=>match Fast.tw8437177126325714943 (Fast.tw11892475500146522536 Fast.tw14364793385576792824) p ⟨fun _ _=>0,P⟩ s t with
    |.go s' t'=>xj p P ld ann n s' t'
    |.halt _ _=>none
theorem zE{p:Program}{P:Params}{ld:Nat}{ann:Option Value}:∀(n:Nat) (s:Shared) (t:Thread),xj p P ld ann n s t=sY treeTable p P ld ann n s t
 |0,_,_=>rfl
 |n+1,s,t=>by
  unfold xj sY
  rw[<- Fast.te6613529449190102663,<- Fast.te8437177126325714943,<- Fast.te11892475500146522536,<- Fast.te14364793385576792824]
  cases through t with
  |true=>rfl
  |false=>
   cases (stepOk ld ann t&&lB t.cur) with
   |false=>rfl
   |true=>
    cases step (denote treeTable) p ⟨fun _ _=>0,P⟩ s t with
    |halt o jp=>rfl
    |go jp wv=>exact zE n jp wv
end L2
namespace L2
open PySem
noncomputable def je(s:Stmt):Arguments:=match s with
 |.FunctionDef _ a _ _ _ _ _ _ _ _=>a
 |_=>{posonlyargs:=[],args:=[],vararg:=none,kwonlyargs:=[],kw_defaults:=[],kwarg:=none,defaults:=[]}
noncomputable def dH(s:Stmt):List Stmt:=match s with
 |.FunctionDef _ _ b _ _ _ _ _ _ _=>b
 |_=>[]
noncomputable def aw(s:Stmt):Scope:=match s with
 |.FunctionDef _ _ _ _ _ _ sc _ _ _=>sc
 |_=>{kind:=.function,names:=[],isGenerator:=false,isCoroutine:=false}
end L2
namespace L2.DL
open PySem
noncomputable def M4:List Str:=["law","_law_is_right","_law_is_put","_law_are_refused","_law_is_told","_law_said","_law_is_plan_told"]
noncomputable def bJ(o:Obj):Option (Addr×Str):=match o.cls,o.data with
 |.type c,.fields vs=>if c = "code" then (match vs[1]?,vs[7]?,vs[9]?,vs[10]?,vs[11]?,vs[18]? with
  |some (Value.str q _),some (Value.int _ _),some (Value.bool _),some (Value.int _ _),some (Value.ref P),some (Value.str _ _)=>if M4.contains q=true then some (P,q) else none
  |_,_,_,_,_,_=>none) else none
 |_,_=>none
noncomputable abbrev bmV:List Value:=[.type "ValueError",.type "Exception",.type "BaseException",.type "object"]
end L2.DL
namespace K12
open PySem L2
noncomputable def top(i:Nat):Stmt:=PySem.Challenge.pw_matefloors_k12_stretched_and_put_in.main.body.getD i (.Pass ⟨0,0,0,0⟩)
noncomputable abbrev jX:Stmt:=top 17
noncomputable abbrev de:Stmt:=top 18
noncomputable abbrev iT:Stmt:=top 19
noncomputable abbrev cZ:Stmt:=top 20
noncomputable abbrev oo:Stmt:=top 21
noncomputable abbrev zS:Stmt:=top 22
noncomputable abbrev uL:Stmt:=top 23
noncomputable abbrev zG:Stmt:=top 24
noncomputable abbrev jM:Stmt:=top 25
noncomputable abbrev lF:Stmt:=top 26
noncomputable abbrev dw:Stmt:=top 27
noncomputable abbrev jP:Stmt:=top 28
noncomputable abbrev cS:Stmt:=top 29
noncomputable abbrev bK:Stmt:=top 30
noncomputable abbrev mB:Stmt:=top 33
noncomputable abbrev jB:Stmt:=top 34
noncomputable abbrev iR:Stmt:=top 35
noncomputable abbrev eP:Stmt:=top 36
noncomputable abbrev dZ:Stmt:=top 37
noncomputable abbrev dY:Stmt:=top 38
noncomputable abbrev eJ:Stmt:=top 39
noncomputable abbrev iU:Stmt:=top 40
noncomputable abbrev da:Stmt:=top 41
noncomputable abbrev iW:Stmt:=top 43
noncomputable abbrev cQ:Stmt:=top 44
noncomputable abbrev mr:Stmt:=top 45
noncomputable abbrev jW:Stmt:=top 46
noncomputable abbrev oq:Stmt:=top 47
noncomputable abbrev d0:Stmt:=top 49
noncomputable abbrev eK:Stmt:=top 50
noncomputable abbrev gM:Stmt:=top 51
noncomputable abbrev fK:Stmt:=top 52
noncomputable abbrev jZ:Stmt:=top 53
noncomputable abbrev eM:Stmt:=top 54
noncomputable abbrev iS:Stmt:=top 55
noncomputable abbrev dy:Stmt:=top 56
noncomputable abbrev iE:Stmt:=top 57
noncomputable abbrev jK:Stmt:=top 58
noncomputable abbrev iD:Stmt:=top 59
noncomputable abbrev iH:Stmt:=top 60
noncomputable abbrev eL:Stmt:=top 61
noncomputable abbrev du:Stmt:=top 62
noncomputable abbrev gG:Stmt:=top 63
noncomputable abbrev iL:Stmt:=top 64
noncomputable abbrev gw:Stmt:=top 65
noncomputable abbrev iO:Stmt:=top 66
noncomputable abbrev iP:Stmt:=top 67
noncomputable abbrev gj:Stmt:=top 68
noncomputable abbrev fY:Stmt:=top 69
noncomputable abbrev iJ:Stmt:=top 70
noncomputable abbrev cO:Stmt:=top 71
noncomputable abbrev eR:Stmt:=top 72
noncomputable abbrev iG:Stmt:=top 73
noncomputable abbrev fT:Stmt:=top 74
noncomputable abbrev eQ:Stmt:=top 75
noncomputable abbrev fW:Stmt:=top 76
noncomputable abbrev fM:Stmt:=top 77
noncomputable abbrev eO:Stmt:=top 78
noncomputable abbrev uK:Stmt:=top 79
noncomputable abbrev fd(n:Str)(s:Stmt)(tk:Tok)(m:Str)(cd:Addr):FuncData:=fnOf n n (je s) (dH s) (aw s) .none .none .none (.str m tk) none (.ref cd) .none
noncomputable abbrev FQ(K:PySem.W.Frag)(n:Str)(s:Stmt)(a cd:Addr)(tk:Tok)(m:Str):Prop:=nsIn K mainGlobals n=some (some (.ref a))/\K.lookup a=some ⟨.type "function",none,.func (fd n s tk m cd),#[]⟩/\codeIn K (.ref cd) n=true/\keepIn K (.ref a)=true
end K12
namespace K12.H
open PySem PySem.W PyProof.Rows L2 L2.DL
set_option maxHeartbeats 0
noncomputable abbrev R:OpenLaw:=PySem.Challenge.rw_matefloors_k12_stretched_and_put_in
noncomputable abbrev LO:List Str:=["has_form","has_form_layings","has_form_plans"]
noncomputable def sT(P:Params):Option Shared:=xj R.row.prog P 11 (some (.ref 6)) 20000 {heap:=boot_heap P,gens:=#[],drawn:=boot_drawn,toks:=boot_toks,os:=default} (topStub R.row.prog)
noncomputable def defName:Stmt->Str
 |.FunctionDef n _ _ _ _ _ _ _ _ _=>n
 |_=>Str.empty
noncomputable def Ir:Stmt->Int
 |.FunctionDef _ _ _ _ _ _ _ _ _ p=>Int.ofNat p.line
 |_=>0
noncomputable def cn(o:Obj)(r:List Obj):List Obj:=o::r
noncomputable def g(P:Params)(x:Str)(t:Nat)(v:Value):DictEntry:=⟨PyData.keyHash P x,.str x t,v⟩
noncomputable def gf(P:Params)(i t a:Nat):DictEntry:=g P (defName (top i)) t (.ref a)
noncomputable def tb:List (Int×Nat)->List Value
 |[]=>[]
 |(a,b)::l=>.int a 0::.int 0 0::.ref b::tb l
noncomputable def tu(l:List Value):Obj:=⟨.type "tuple",none,.seq l.toArray 0,#[]⟩
noncomputable def nf:Obj:=⟨.none,none,.fields #[],#[]⟩
noncomputable def dp(s:Stmt):List Str:=(je s).args.map (·.arg)
noncomputable def fd(s:Stmt)(a:Addr)(p c:Value):Data:=.func {name:=defName s,qualname:=defName s,params:=je s,body:=.stmts (dH s),scope:=aw s,globals:=a,closure:=[],defaults:=.none,kwdefaults:=.none,pyModule:=p,code:=c}
noncomputable def co(s:Stmt)(a t u:Nat)(x y:Value)(d:Nat):Obj:=⟨.type "code",none,.fields #[.str (defName s) t,.str (defName s) (t+1),.str "/claim/cut.py" (t+2),.int (Ir s) 0,.int (Int.ofNat (dp s).length) 0,.int 0 0,.int 0 0,.int 3 0,.ref a,.bool true,.int 181 0,.ref (a+1),.none,x,y,.ref (a+d),.int (Int.ofNat u) 0,.int (Ir s) 0,.str "/claim/cut.py" (u+1)],#[]⟩
noncomputable def nv:Nat->List Str->List Value
 |_,[]=>[]
 |t,x::l=>.str x t::nv (t+1) l
noncomputable def fB(i a t:Nat)(l:List Str)(p:Value)(r:List Obj):List Obj:=tu []::nf::tu (nv (t+3) (dp (top i)++l))::tu []::⟨.none,none,fd (top i) 0 .none .none,#[]⟩::co (top i) a t (t+3+(dp (top i)++l).length) (.ref (a+2)) (.ref (a+3)) 4::⟨.type "function",none,fd (top i) 3 p (.ref (a+5)),#[]⟩::r
noncomputable def fL(i a t:Nat)(p:Value)(r:List Obj):List Obj:=tu []::nf::⟨.none,none,fd (top i) 0 .none .none,#[]⟩::co (top i) a t (t+3) .none .none 2::⟨.type "function",none,fd (top i) 3 p (.ref (a+3)),#[]⟩::r
noncomputable def fC(i a t:Nat)(l c:List Str)(p:Value)(r:List Obj):List Obj:=tu []::nf::tu (nv (t+3) (dp (top i)++l))::tu (nv (t+3+(dp (top i)++l).length) c)::⟨.none,none,fd (top i) 0 .none .none,#[]⟩::co (top i) a t (t+3+(dp (top i)++l).length+c.length) (.ref (a+2)) (.ref (a+3)) 4::⟨.type "function",none,fd (top i) 3 p (.ref (a+5)),#[]⟩::r
noncomputable def me:Value:=.str "matefloors.errors" 187
noncomputable def cB(P:Params)(x:Str)(i t:Nat)(n:Int)(r:List Obj):List Obj:=tu [.ref 24]::⟨.type "builtin_function_or_method",none,.fields #[.builtin "type.__prepare__",.type "type"],#[]⟩::⟨.type "dict",none,.dict #[g P "__module__" (t+5) me,g P "__qualname__" (t+7) (.str x (t+6)),g P "__firstlineno__" (t+9) (.int n (t+8)),g P "__static_attributes__" (t+10) (.ref (i+7))] 4,#[]⟩::tu []::nf::⟨.type "code",none,.fields #[.str x t,.str x (t+1),.str "/claim/cut.py" (t+2),.int n 0,.int 0 0,.int 0 0,.int 0 0,.int 0 0,.ref (i+3),.bool false,.int 181 0,.ref (i+4),.none,.none,.none,.none,.int (Int.ofNat (t+3)) 0,.int n 0,.str "/claim/cut.py" (t+4)],#[]⟩::⟨.type "frame",none,.plain,#[some (.ref (i+5)),some (.ref 3),some (.ref (i+2)),none,some me,none,some (.ref 0)]⟩::tu []::⟨.type "dict",none,.dict #[g P "__module__" (t+5) me,g P "__firstlineno__" (t+9) (.int n (t+8)),g P "__static_attributes__" (t+10) (.ref (i+7)),g P "__doc__" (t+11) .none] 2,#[]⟩::⟨.type "type",none,.cls ⟨x,[.ref 24],[.ref (i+9),.ref 24,.type "ValueError",.type "Exception",.type "BaseException",.type "object"],i+8,x,true,[],[],false,none,false⟩,#[some (.ref i),none,some (.str x (t-2)),some (.str x (t+6)),some (.builtin "ValueError.__new__"),some (.bool true)]⟩::⟨.type "super",none,.fields #[.ref (i+9),.ref (i+9),.ref (i+9)],#[]⟩::⟨.type "builtin_function_or_method",none,.fields #[.builtin "object.__init_subclass__",.ref (i+9)],#[]⟩::r
noncomputable def m0:Value:=.str "matefloors.numbers" 415
noncomputable def m1:Value:=.str "matefloors.layings" 545
noncomputable def m2:Value:=.str "matefloors.moving" 629
noncomputable def m3:Value:=.str "law_matefloors_k12_stretched_and_put_in" 676
noncomputable def ho0(P:Params)(r:List Obj):List Obj:=cn (boot_o_0 P) <| cn (boot_o_1 P) <| cn (boot_o_2 P) <| cn (⟨.type "dict",none,.dict #[g P "__name__" 165 (.str "law_matefloors_k12_stretched_and_put_in" 676),g P "__doc__" 166 .none,g P "__package__" 167 .none,g P "__loader__" 168 (.builtin "__main__.__loader__#opaque"),g P "__spec__" 169 .none,g P "__annotations__" 170 (.ref 6),g P "__builtins__" 171 (.ref 4),g P "__file__" 173 (.str "/claim/cut.py" 172),g P "__cached__" 174 .none,g P "FloorError" 206 (.ref 24),g P "NoRoot" 222 (.ref 37),g P "NoNumber" 238 (.ref 49),g P "NoLaying" 254 (.ref 61),g P "NoTile" 270 (.ref 73),g P "NoFit" 286 (.ref 85),g P "NoKinds" 302 (.ref 97),g P "NoPlan" 318 (.ref 109),g P "NoSpot" 334 (.ref 121),g P "NoNet" 350 (.ref 133),g P "NoText" 366 (.ref 145),g P "NoSaying" 382 (.ref 157),g P "NoName" 398 (.ref 169),g P "TooMany" 414 (.ref 181),g P "NOUGHT" 420 (.ref 184),gf P 17 427 191,gf P 18 435 198,gf P 19 445 205,gf P 20 454 212,gf P 21 464 219,gf P 22 472 226,gf P 23 481 233,gf P 24 490 240,gf P 25 499 247,gf P 26 507 254,gf P 27 517 261,gf P 28 528 268,gf P 29 536 275,gf P 30 544 282,g P "MOST_TILES" 548 (.int 60 547),gf P 33 560 289,gf P 34 566 294,gf P 35 577 301,gf P 36 589 308,gf P 37 600 315,gf P 38 608 322,gf P 39 614 327,gf P 40 620 332,gf P 41 628 339,gf P 43 642 346,gf P 44 648 351,gf P 45 661 358,gf P 46 669 365,gf P 47 675 370,gf P 49 683 375,gf P 50 689 380,gf P 51 695 385,gf P 52 704 392,gf P 53 714 399,gf P 54 722 406,gf P 55 731 413,gf P 56 739 420,gf P 57 747 427,gf P 58 759 434,gf P 59 765 439,gf P 60 774 446,gf P 61 785 453,gf P 62 791 458,gf P 63 811 465,gf P 64 820 472,gf P 65 826 477,gf P 66 837 484,gf P 67 848 491,gf P 68 855 498,gf P 69 861 503,gf P 70 869 510,gf P 71 877 517,gf P 72 894 524,gf P 73 905 531,gf P 74 915 538,gf P 75 927 545,gf P 76 950 552,gf P 77 956 557,gf P 78 970 564,gf P 79 992 571] 84,#[]⟩) <| cn (boot_o_4 P) <| cn (boot_o_5 P) <| cn (boot_o_6 P) <| cn (boot_o_7 P) <| cn (boot_o_8 P) <| cn (boot_o_9 P) <| cn (boot_o_10 P) <| cn (⟨(.type "tuple"),none,(.seq #[] 0),#[]⟩) <| cn (⟨.none,none,.fields (tb [(2,20),(4,33),(6,45),(8,57),(10,69),(12,81),(14,93),(16,105),(18,117),(20,129),(22,141),(24,153),(26,165),(28,177),(32,190),(34,197),(38,204),(45,211),(47,218),(54,225),(56,232),(58,239),(62,246),(65,253),(67,260),(76,267),(80,274),(82,281),(87,288),(94,293),(103,300),(106,307),(116,314),(123,321),(125,326),(136,331),(144,338),(148,345),(153,350),(155,357),(158,364),(160,369),(175,374),(185,379),(190,384),(194,391),(196,398),(199,405),(204,412),(206,419),(208,426),(210,433),(220,438),(225,445),(232,452),(238,457),(244,464),(251,471),(256,476),(261,483),(271,490),(277,497),(279,502),(282,509),(284,516),(291,523),(304,530),(309,537),(315,544),(321,551),(334,556),(337,563),(341,570)]).toArray,#[]⟩) <| cn (⟨(.type "code"),none,(.fields #[(.str "<module>" 182),(.str "<module>" 183),(.str "/claim/cut.py" 184),(.int 1 0),(.int 0 0),(.int 0 0),(.int 0 0),(.int 0 0),(.ref 11),(.bool false),(.int 181 0),(.ref 12),.none,.none,.none,.none,(.int 185 0),(.int 1 0),(.str "/claim/cut.py" 186)]),#[]⟩) <| cn (⟨(.type "frame"),none,.plain,#[some (.ref 13),some (.ref 3),some (.ref 3),none,some (.str "__main__" 164),none,some (.ref 0)]⟩) <| cn (⟨(.type "tuple"),none,(.seq #[(.type "ValueError")] 0),#[]⟩) <| cn (⟨(.type "builtin_function_or_method"),none,(.fields #[(.builtin "type.__prepare__"),(.type "type")]),#[]⟩) <| cn (⟨(.type "dict"),none,(.dict #[⟨PyData.keyHash P "__module__",(.str "__module__" 196),(.str "matefloors.errors" 187)⟩,⟨PyData.keyHash P "__qualname__",(.str "__qualname__" 198),(.str "FloorError" 197)⟩,⟨PyData.keyHash P "__firstlineno__",(.str "__firstlineno__" 200),(.int 2 199)⟩,⟨PyData.keyHash P "__static_attributes__",(.str "__static_attributes__" 201),(.ref 22)⟩] 4),#[]⟩) <| cn (⟨(.type "tuple"),none,(.seq #[] 0),#[]⟩) <| cn (⟨.none,none,(.fields #[]),#[]⟩) <| r
noncomputable def ho1(P:Params)(r:List Obj):List Obj:=cn (⟨(.type "code"),none,(.fields #[(.str "FloorError" 191),(.str "FloorError" 192),(.str "/claim/cut.py" 193),(.int 2 0),(.int 0 0),(.int 0 0),(.int 0 0),(.int 0 0),(.ref 18),(.bool false),(.int 181 0),(.ref 19),.none,.none,.none,.none,(.int 194 0),(.int 2 0),(.str "/claim/cut.py" 195)]),#[]⟩) <| cn (⟨(.type "frame"),none,.plain,#[some (.ref 20),some (.ref 3),some (.ref 17),none,some (.str "matefloors.errors" 187),none,some (.ref 0)]⟩) <| cn (⟨(.type "tuple"),none,(.seq #[] 0),#[]⟩) <| cn (⟨(.type "dict"),none,(.dict #[⟨PyData.keyHash P "__module__",(.str "__module__" 196),(.str "matefloors.errors" 187)⟩,⟨PyData.keyHash P "__firstlineno__",(.str "__firstlineno__" 200),(.int 2 199)⟩,⟨PyData.keyHash P "__static_attributes__",(.str "__static_attributes__" 201),(.ref 22)⟩,⟨PyData.keyHash P "__weakref__",(.str "__weakref__" 203),(.ref 25)⟩,⟨PyData.keyHash P "__doc__",(.str "__doc__" 204),.none⟩] 3),#[]⟩) <| cn (⟨(.type "type"),none,(.cls ⟨"FloorError",[(.type "ValueError")],[(.ref 24),(.type "ValueError"),(.type "Exception"),(.type "BaseException"),(.type "object")],23,"FloorError",true,[],[(.ref 37),(.ref 49),(.ref 61),(.ref 73),(.ref 85),(.ref 97),(.ref 109),(.ref 121),(.ref 133),(.ref 145),(.ref 157),(.ref 169),(.ref 181)],false,none,false⟩),#[some (.ref 15),none,some (.str "FloorError" 189),some (.str "FloorError" 197),some (.builtin "ValueError.__new__"),some (.bool true)]⟩) <| cn (⟨(.type "getset_descriptor"),none,(.fields #[(.str "__weakref__" 202),(.ref 24),(.builtin "ExceptionGroup.__weakref__"),.none]),#[]⟩) <| cn (⟨(.type "super"),none,(.fields #[(.ref 24),(.ref 24),(.ref 24)]),#[]⟩) <| cn (⟨(.type "builtin_function_or_method"),none,(.fields #[(.builtin "object.__init_subclass__"),(.ref 24)]),#[]⟩) <| cB P "NoRoot" 28 209 4 <| cB P "NoNumber" 40 225 6 <| cB P "NoLaying" 52 241 8 <| cB P "NoTile" 64 257 10 <| cB P "NoFit" 76 273 12 <| cB P "NoKinds" 88 289 14 <| cB P "NoPlan" 100 305 16 <| cB P "NoSpot" 112 321 18 <| cB P "NoNet" 124 337 20 <| cB P "NoText" 136 353 22 <| cB P "NoSaying" 148 369 24 <| cB P "NoName" 160 385 26 <| r
noncomputable def ho2(P:Params)(r:List Obj):List Obj:=cB P "TooMany" 172 401 28 <| cn (⟨(.type "tuple"),none,(.seq #[(.int 0 417),(.int 0 418),(.int 1 419)] 0),#[]⟩) <| fB 17 185 421 [] m0 <| fB 18 192 428 [] m0 <| fB 19 199 436 ["a","b","c"] m0 <| fB 20 206 446 [] m0 <| fB 21 213 455 ["divisor"] m0 <| fB 22 220 465 [] m0 <| fB 23 227 473 [] m0 <| fB 24 234 482 [] m0 <| fB 25 241 491 ["norm"] m0 <| fB 26 248 500 [] m0 <| fB 27 255 508 ["prevailing"] m0 <| fB 28 262 518 ["a","b"] m0 <| fB 29 269 529 [] m0 <| fB 30 276 537 [] m0 <| fB 33 283 549 ["x","y","width","height"] m1 <| fL 34 290 561 m1 <| fB 35 295 567 ["x","y","width","height"] m1 <| fB 36 302 578 ["low","high","middle"] m1 <| r
noncomputable def ho3(P:Params)(r:List Obj):List Obj:=fB 37 309 590 ["marks","x","place"] m1 <| fB 38 316 601 [] m1 <| fL 39 323 609 m1 <| fL 40 328 615 m1 <| fB 41 333 621 [] m1 <| fB 43 340 631 ["width","height","tiles"] m2 <| fL 44 347 643 m2 <| fB 45 352 649 ["x","y","width","height"] m2 <| fB 46 359 662 [] m2 <| fL 47 366 670 m2 <| fL 49 371 678 m3 <| fL 50 376 684 m3 <| fL 51 381 690 m3 <| fB 52 386 696 [] m3 <| fB 53 393 705 ["_law_common"] m3 <| fB 54 400 715 [] m3 <| fB 55 407 723 [] m3 <| fB 56 414 732 [] m3 <| fB 57 421 740 [] m3 <| fB 58 428 748 ["_law_cell","_law_great","_law_primes","_law_mixed_here"] m3 <| r
noncomputable def ho4(P:Params)(r:List Obj):List Obj:=fL 59 435 760 m3 <| fB 60 440 766 ["_law_digit"] m3 <| fB 61 447 775 ["_law_columns","_law_rows","_law_blocks_here"] m3 <| fL 62 454 786 m3 <| fB 63 459 792 ["_law_xs","_law_ys","_law_tiles","_law_column","_law_row","_law_wide","_law_high","_law_width","_law_height"] m3 <| fB 64 466 812 ["_law_found","_law_side_here"] m3 <| fL 65 473 821 m3 <| fB 66 478 827 ["_law_x","_law_sign_here"] m3 <| fB 67 485 838 ["_law_first","_law_second","_law_sides_here"] m3 <| fB 68 492 849 [] m3 <| fL 69 499 856 m3 <| fB 70 504 862 [] m3 <| fB 71 511 870 ["_law_draw"] m3 <| fB 72 518 878 ["_law_met","_law_found","_law_most","_law_row","_law_column","_law_wide","_law_high","_law_k"] m3 <| fB 73 525 895 ["_law_found"] m3 <| fB 74 532 906 ["_law_x","_law_sign_here"] m3 <| fB 75 539 916 ["_law_wide","_law_a","_law_b","_law_c","_law_way"] m3 <| fB 76 546 928 ["_law_columns","_law_rows","_law_blocks_here","_law_xs","_law_ys","_law_tiles","_law_column","_law_row","_law_many","_law_tall","_law_width","_law_height","_law_factor"] m3 <| fL 77 553 951 m3 <| fC 78 558 957 [] ["_law_d","_law_laying_here","_law_place","_law_other"] m3 <| r
noncomputable def ho5(P:Params)(r:List Obj):List Obj:=fB 79 565 971 ["_law_k","_law_bag_here","_law_d","_law_laying_here","_law_factor","_law_grown_here","_law_some","_law_turn","_law_place","_law_other","_law_x","_law_y","_law_w","_law_h","_law_alone"] m3 <| r
noncomputable def hT(P:Params):Heap:=⟨⟨ho0 P <| ho1 P <| ho2 P <| ho3 P <| ho4 P <| ho5 P []⟩,(boot_heap P).life⟩
noncomputable abbrev mz0:Str:="matefloors.numbers"
noncomputable abbrev mz1:Str:="matefloors.layings"
noncomputable abbrev mz2:Str:="matefloors.moving"
noncomputable abbrev mz3:Str:="law_matefloors_k12_stretched_and_put_in"
noncomputable def isNm:Stmt->Bool
 |.Assign [.Name x _] _ _=>x == "__name__"
 |_=>false
noncomputable def V:Program:={R.row.prog with main:={R.row.prog.main with body:=R.row.prog.main.body.filter fun s=>!isNm s}}
noncomputable def as:List Addr:=[3,191,190,198,197,205,204,212,211,219,218,226,225,233,232,240,239,247,246,254,253,261,260,268,267,275,274,282,281,289,288,294,293,301,300,308,307,315,314,322,321,327,326,332,331,339,338,346,345,351,350,358,357,365,364,370,369,375,374,380,379,385,384,392,391,399,398,406,405,413,412,420,419,427,426,434,433,439,438,446,445,453,452,458,457,465,464,472,471,477,476,484,483,491,490,498,497,503,502,510,509,517,516,524,523,531,530,538,537,545,544,552,551,557,556,564,563,571,570,184,24,23,37,36,49,48,61,60,73,72,85,84,97,96,109,108,121,120,133,132,145,144,157,156,169,168,181,180,4]
noncomputable def tabs:List Addr:=[559,566]
noncomputable def K(P:Params):Frag:=as.map fun a=>(a,((hT P).get? a).getD default)
noncomputable def TF(P:Params):Frag:=tabs.map fun a=>(a,((hT P).get? a).getD default)
noncomputable def KF(P:Params):Frag:=K P++TF P
theorem kAs(P:Params):as++tabs=(KF P).map (·.1):=by
 unfold KF K TF
 rw[map_append,map_map,map_map]
 exact congr (congrArg HAppend.hAppend (List.map_id _).symm) (List.map_id _).symm
noncomputable def HK:Hook:=kHook KF (as++tabs) kAs
noncomputable def posOf:Stmt->Pos
 |.FunctionDef _ _ _ _ _ _ _ _ _ p=>p
 |_=>⟨0,0,0,0⟩
noncomputable def D:DefRec:=⟨"law",je K12.uK,dH K12.uK,aw K12.uK,posOf K12.uK⟩
noncomputable def Xt:Shared->Bool:=fun s=>xlAt V [] s&&recOk R.row.records s
theorem runC(P:Params):(sT P).map (fun s=>(s.heap,s.gens,s.drawn,s.toks))=some (hT P,#[],{},993):=⟨⟩
theorem U4{A B C D:Type}{a a':A}{b b':B}{c c':C}{d d':D}(h:(a,b,c,d)=(a',b',c',d')):a=a'/\b=b'/\c=c'/\d=d':=by
 cases h;exact⟨rfl,rfl,rfl,rfl⟩
theorem run(w:World)(os:OsState):topRun treeTable R.row.prog w 11 (some (.ref 6)) 20000 {heap:=boot_heap w.params,gens:=#[],drawn:=boot_drawn,toks:=boot_toks,os:=os} (topStub R.row.prog)=some {heap:=hT w.params,gens:=#[],drawn:={},toks:=993,os:=os}:=by
 have h:=runC w.params
 cases e:sT w.params with
 |none=>rw[e] at h;cases h
 |some s=>
  rw[e] at h
  obtain⟨heap,gens,drawn,toks,os0⟩:=s
  have h':some (heap,gens,drawn,toks)=some (hT w.params,(#[]:Array GenState),({}:Drawn),993):=h
  obtain⟨rfl,rfl,rfl,rfl⟩:=U4 (Option.some.inj h')
  exact zZ (w:=w) (os:=os) ((zE _ _ _).symm.trans e)
theorem Tc(w:World)(os:OsState):(staticsOk (importedModules R.row.prog.main.body) (boot_heap w.params) (hT w.params)&&namesBound R.row.prog (hT w.params)&&gensDone {heap:=hT w.params,gens:=#[],drawn:={},toks:=993,os:=os}&&laidKept (boot_heap w.params) (hT w.params))=true:=⟨⟩
theorem QL(w:World)(os:OsState):seen (List.map (fun x=>x.name) (recsOf V)) (ownsOf V) [] {heap:=hT w.params,drawn:={},toks:=993,os:=os} = expectedOf V:=⟨⟩
theorem Ro(w:World)(os:OsState):(hT w.params).bltView=bltViewBooted:=⟨⟩
theorem Rl(w:World)(os:OsState):((hT w.params).keysOk (looseW V LO) (List.map (fun x=>x.name) (recsOf V)) (List.map (fun x=>x.fst) (litsOf V)) (List.map (fun x=>x.name) (clssOf V (looseW V LO)))&&(hT w.params).accountedOkI (importedModules R.row.prog.main.body)&&(hT w.params).isNs mainGlobals&&(hT w.params).isNs builtinsNs&&tablesOk V (hT w.params)&&Xt {heap:=hT w.params,gens:=#[],drawn:={},toks:=993,os:=os}&&(if true=true then (#[]:Array GenState).size==0 else !leftWithCleanup (#[]:Array GenState)))=true:=⟨⟩
theorem Qx(w:World)(os:OsState):tabsOk V {heap:=hT w.params,gens:=#[],drawn:={},toks:=993,os:=os} = true:=⟨⟩
theorem Rg(w:World)(os:OsState):pinSeenD V (drecsOf V) {heap:=hT w.params,gens:=#[],drawn:={},toks:=993,os:=os} = pinGoodD (drecsOf V):=⟨⟩
theorem Sv(w:World)(os:OsState):plainSeenE V (looseW V LO) {heap:=hT w.params,gens:=#[],drawn:={},toks:=993,os:=os} = plainGoodE V (looseW V LO):=⟨⟩
theorem QH(w:World)(os:OsState):plainSeenD V LO {heap:=hT w.params,gens:=#[],drawn:={},toks:=993,os:=os} = plainGoodD V LO:=⟨⟩
theorem RF(w:World)(os:OsState):wideSeen V {heap:=hT w.params,gens:=#[],drawn:={},toks:=993,os:=os} = wideGood V:=⟨⟩
theorem RZ(w:World)(os:OsState):clsSeenW V LO {heap:=hT w.params,gens:=#[],drawn:={},toks:=993,os:=os} = clsGoodW V LO:=⟨⟩
theorem Tf{A B C D E F G H I:Type}{a a':A}{b b':B}{c c':C}{d d':D}{e e':E}{f f':F}{g g':G}{h h':H}{i i':I}(h0:a=a')(h1:b=b')(h2:c=c')(h3:d=d')(h4:e=e')(h5:f=f')(h6:g=g')(h7:h=h')(h8:i=i'):(a,b,c,d,e,f,g,h,i)=(a',b',c',d',e',f',g',h',i'):=by
 rw[h0,h1,h2,h3,h4,h5,h6,h7,h8]
theorem Uu(w:World)(os:OsState):openSeen V LO (importedModules R.row.prog.main.body) Xt true {heap:=hT w.params,gens:=#[],drawn:={},toks:=993,os:=os} = openGood V LO:=Tf (QL w os) (Ro w os) (Rl w os) (Qx w os) (Rg w os) (Sv w os) (QH w os) (RF w os) (RZ w os)
theorem Ux(w:World)(os:OsState):HK.obs {heap:=hT w.params,gens:=#[],drawn:={},toks:=993,os:=os} = HK.val w:=⟨⟩
theorem seen(w:World):(fun os=>(staticsOk (importedModules R.row.prog.main.body) (boot_heap w.params) (hT w.params)&&namesBound R.row.prog (hT w.params)&&gensDone {heap:=hT w.params,gens:=#[],drawn:={},toks:=993,os:=os}&&laidKept (boot_heap w.params) (hT w.params),
  openSeen V LO (importedModules R.row.prog.main.body) Xt true {heap:=hT w.params,gens:=#[],drawn:={},toks:=993,os:=os},HK.obs {heap:=hT w.params,gens:=#[],drawn:={},toks:=993,os:=os}))=fun _:OsState=>(true,openGood V LO,HK.val w):=
 funext fun os=>Prod.ext (Tc w os) (Prod.ext (Uu w os) (Ux w os))
theorem lkb{a b:Bool}(x:a=true)(y:b=true):(a&&b)=true:=by rw[x,y];rfl
theorem wsA:(sreFenced R.row.prog.main&&((moduleNames R.row.prog.main.body).isEmpty || lookedIntoSs (moduleNames R.row.prog.main.body) R.row.prog.main.body))=true:=⟨⟩
theorem wsB:namesResolve R.row.prog=true:=⟨⟩
theorem wsC:R.row.prog.boundNames.all (fun n=>!worldNames.contains n)=true:=⟨⟩
theorem wsD:noRoadLSs {strict:=!(importedModules R.row.prog.main.body).all cThrough.contains,foot:=none,bare:=(["vars","dir","locals"]:List Str).filter (readsOut R.row.prog R.row.prog.main.body)} R.row.prog.main.body=true:=⟨⟩
theorem wsE:(namesMeet R.row.prog R.row.prog.main.body fun _ n=>attrL n)=true:=⟨⟩
theorem wsF:looksOpen R.row.prog=true:=lkb (lkb (lkb (lkb wsA wsB) wsC) wsD) wsE
theorem wsG:R.row.wellSaid=true:=by
 unfold OpenRow.wellSaid OpenRow.partSaid
 rw[wsF]
 kernel_rfl
theorem wsH:noClassBlock R.prog R.footing=true:=⟨⟩
theorem wsI:noRoadLSs {strict:=true,foot:=some R.bound',writes:=R.writes,may:=R.may} R.footing=true:=⟨⟩
theorem wsJ:R.namesIt=true:=⟨⟩
theorem wsK:R.bound'.all (fun n=>!builtinNamed n || R.about==[n] || !R.reads n)=true:=⟨⟩
theorem wsL:namesMeet R.prog R.footing (fun sc n=>(!(["type","isinstance","issubclass","getattr","hasattr"]:List Str).contains n || sc.names.lookup n==some .globalImplicit)&&(R.may != some n || sc.kind==.module || sc.names.lookup n==some .globalImplicit))=true:=⟨⟩
theorem wsM:namesMeet R.prog R.above (fun _ n=>!R.own.contains n)=true:=⟨⟩
theorem wsN:(namesMeet R.prog R.footing fun sc n=>sc.kind==.module || sc.names.lookup n != some .globalExplicit)=true:=⟨⟩
theorem ws:R.wellSaid=true:=by
 unfold OpenLaw.wellSaid
 rw[wsG,wsH,wsI,wsJ,wsK,wsL,wsM,wsN]
 kernel_rfl
theorem Q1(P:Params):FQ (K P) "is_whole" jX 191 190 415 mz0/\FQ (K P) "common_divisor" de 198 197 415 mz0/\FQ (K P) "is_number" iT 205 204 415 mz0/\FQ (K P) "divisor_of_all" cZ 212 211 415 mz0/\FQ (K P) "number" oo 219 218 415 mz0/\FQ (K P) "plus" zS 226 225 415 mz0/\FQ (K P) "times" uL 233 232 415 mz0/\FQ (K P) "over" zG 240 239 415 mz0/\FQ (K P) "contrary" jM 247 246 415 mz0/\FQ (K P) "sign_of" lF 254 253 415 mz0/\FQ (K P) "sign_of_parts" dw 261 260 415 mz0/\FQ (K P) "is_above" jP 268 267 415 mz0/\FQ (K P) "is_above_nought" cS 275 274 415 mz0/\FQ (K P) "must_be_above_nought" bK 282 281 415 mz0:=
 by (repeat' apply And.intro)<;>first|kernel_rfl|decide
theorem Qy(P:Params):FQ (K P) "is_tile" mB 289 288 545 mz1/\FQ (K P) "has_form" jB 294 293 545 mz1/\FQ (K P) "bounds_of" iR 301 300 545 mz1/\FQ (K P) "place_among" eP 308 307 545 mz1/\FQ (K P) "rising_marks" dZ 315 314 545 mz1/\FQ (K P) "reaches_just" dY 322 321 545 mz1/\FQ (K P) "covers_once" eJ 327 326 545 mz1/\FQ (K P) "is_laying" iU 332 331 545 mz1/\FQ (K P) "must_be_laying" da 339 338 545 mz1/\FQ (K P) "stretched" iW 346 345 629 mz2/\FQ (K P) "stretched_tiles" cQ 351 350 629 mz2/\FQ (K P) "shifted" mr 358 357 629 mz2/\FQ (K P) "is_place" jW 365 364 629 mz2/\FQ (K P) "put_in" oq 370 369 629 mz2:=
 by (repeat' apply And.intro)<;>first|kernel_rfl|decide
theorem RQ(P:Params):FQ (K P) "_law_refusal" d0 375 374 676 mz3/\FQ (K P) "_law_put_by" eK 380 379 676 mz3/\FQ (K P) "_law_grown" gM 385 384 676 mz3/\FQ (K P) "_law_times" fK 392 391 676 mz3/\FQ (K P) "_law_low" jZ 399 398 676 mz3/\FQ (K P) "_law_shared" eM 406 405 676 mz3/\FQ (K P) "_law_over" iS 413 412 676 mz3/\FQ (K P) "_law_contrary" dy 420 419 676 mz3/\FQ (K P) "_law_plus" iE 427 426 676 mz3/\FQ (K P) "_law_bag" jK 434 433 676 mz3/\FQ (K P) "_law_root" iD 439 438 676 mz3/\FQ (K P) "_law_take" iH 446 445 676 mz3/\FQ (K P) "_law_laying" eL 453 452 676 mz3/\FQ (K P) "_law_pinwheel" du 458 457 676 mz3:=
 by (repeat' apply And.intro)<;>first|kernel_rfl|decide
theorem Ry(P:Params):FQ (K P) "_law_floor" gG 465 464 676 mz3/\FQ (K P) "_law_ends" iL 472 471 676 mz3/\FQ (K P) "_law_sides" gw 477 476 676 mz3/\FQ (K P) "_law_side" iO 484 483 676 mz3/\FQ (K P) "_law_sign" iP 491 490 676 mz3/\FQ (K P) "_law_minus" gj 498 497 676 mz3/\FQ (K P) "_law_mixed" fY 503 502 676 mz3/\FQ (K P) "_law_less" iJ 510 509 676 mz3/\FQ (K P) "_law_many_cells" cO 517 516 676 mz3/\FQ (K P) "_law_blocks" eR 524 523 676 mz3/\FQ (K P) "_law_room" iG 531 530 676 mz3/\FQ (K P) "_law_above" fT 538 537 676 mz3/\FQ (K P) "_law_number" eQ 545 544 676 mz3/\FQ (K P) "_law_inner" fW 552 551 676 mz3:=
 by (repeat' apply And.intro)<;>first|kernel_rfl|decide
theorem RS(P:Params):FQ (K P) "_law_marks" fM 557 556 676 mz3/\FQ (K P) "_law_is_put" eO 564 563 676 mz3/\FQ (K P) "law" uK 571 570 676 mz3/\nsIn (K P) mainGlobals "isinstance"=some none/\nsIn (K P) mainGlobals "int"=some none/\nsIn (K P) mainGlobals "bool"=some none/\nsIn (K P) mainGlobals "abs"=some none/\nsIn (K P) mainGlobals "tuple"=some none/\nsIn (K P) mainGlobals "len"=some none/\nsIn (K P) mainGlobals "all"=some none/\nsIn (K P) mainGlobals "set"=some none/\nsIn (K P) mainGlobals "range"=some none/\nsIn (K P) mainGlobals "enumerate"=some none/\nsIn (K P) mainGlobals "ValueError"=some none:=
 by (repeat' apply And.intro)<;>first|kernel_rfl|decide
theorem R4(P:Params):nsIn (K P) mainGlobals "list"=some none/\nsIn (K P) mainGlobals "min"=some none/\nsIn (K P) mainGlobals "sum"=some none/\nsIn (K P) mainGlobals "max"=some none/\nsIn (K P) mainGlobals "MOST_TILES"=some (some (.int 60 547))/\(nsIn (K P) mainGlobals "NOUGHT"=some (some (.ref 184))/\(K P).lookup 184=some ⟨.type "tuple",none,.seq #[.int 0 417,.int 0 418,.int 1 419] 0,#[]⟩)/\nsIn (K P) mainGlobals "FloorError"=some (some (.ref 24))/\nsIn (K P) mainGlobals "NoRoot"=some (some (.ref 37))/\nsIn (K P) mainGlobals "NoNumber"=some (some (.ref 49))/\nsIn (K P) mainGlobals "NoLaying"=some (some (.ref 61))/\nsIn (K P) mainGlobals "NoTile"=some (some (.ref 73))/\nsIn (K P) mainGlobals "NoFit"=some (some (.ref 85))/\nsIn (K P) mainGlobals "NoKinds"=some (some (.ref 97))/\nsIn (K P) mainGlobals "NoPlan"=some (some (.ref 109)):=
 by (repeat' apply And.intro)<;>first|kernel_rfl|decide
theorem Rv(P:Params):nsIn (K P) mainGlobals "NoSpot"=some (some (.ref 121))/\nsIn (K P) mainGlobals "NoNet"=some (some (.ref 133))/\nsIn (K P) mainGlobals "NoText"=some (some (.ref 145))/\nsIn (K P) mainGlobals "NoSaying"=some (some (.ref 157))/\nsIn (K P) mainGlobals "NoName"=some (some (.ref 169))/\nsIn (K P) mainGlobals "TooMany"=some (some (.ref 181))/\excIn (K P) (181) bmV "ValueError.__new__"=true/\exmOne (K P) (.ref 181) (.ref 24)=some true/\findIn (K P) (.ref 181) "__getattribute__"=some (some (.builtin "BaseException.__getattribute__"))/\findIn (K P) (.ref 181) "__getattr__"=some none/\findIn (K P) (.ref 181) "__class__"=some (some (.builtin "object.__class__"))/\mroIn (K P) 181 (.type "object")=some true/\mroIn (K P) 181 (.type "BaseException")=some true/\(clsIn (K P) 181).isSome=true:=
 by (repeat' apply And.intro)<;>first|kernel_rfl|decide
theorem Sy(P:Params):kitOne (K P) (.ref 181) (.ref 37)=some false/\kitOne (K P) (.ref 181) (.ref 49)=some false/\kitOne (K P) (.ref 181) (.ref 61)=some false/\kitOne (K P) (.ref 181) (.ref 73)=some false/\kitOne (K P) (.ref 181) (.ref 85)=some false/\kitOne (K P) (.ref 181) (.ref 97)=some false/\kitOne (K P) (.ref 181) (.ref 109)=some false/\kitOne (K P) (.ref 181) (.ref 121)=some false/\kitOne (K P) (.ref 181) (.ref 133)=some false/\kitOne (K P) (.ref 181) (.ref 145)=some false/\kitOne (K P) (.ref 181) (.ref 157)=some false/\kitOne (K P) (.ref 181) (.ref 169)=some false/\kitOne (K P) (.ref 181) (.ref 181)=some true/\kitOne (K P) (.ref 181) (.type "ValueError")=some true:=
 by (repeat' apply And.intro)<;>first|kernel_rfl|decide
theorem RJ(P:Params):(nsIn (K P) mainGlobals "__builtins__"=some (some (.ref 4))/\(4:Addr)≠builtinsNs/\(K P).lookup 4=some ⟨.type "module",some builtinsNs,.plain,#[]⟩):=
 by (repeat' apply And.intro)<;>first|kernel_rfl|decide
theorem Hh(P:Params):((K P).filterMap fun p=>bJ p.2)=[(559,("_law_is_put":Str)),(566,("law":Str))]/\((K P).lookup 563).bind bJ=some (559,("_law_is_put":Str))/\((K P).lookup 570).bind bJ=some (566,("law":Str))/\(KF P).lookup 559=some (tabObj #[])/\(KF P).lookup 566=some (tabObj #[])/\(K P).lookup 559=none/\(K P).lookup 566=none:=⟨⟨⟩,⟨⟩,⟨⟩,⟨⟩,⟨⟩,⟨⟩,⟨⟩⟩
theorem Md(P:Params):((K P).filterMap fun p=>bJ p.2)=[(559,("_law_is_put":Str)),(566,("law":Str))]:=(Hh P).1
theorem mv(P:Params):((K P).lookup 563).bind bJ=some (559,("_law_is_put":Str)):=(Hh P).2.1
theorem va{q2:Str}(h:((559:Addr),q2)∈([(559,("_law_is_put":Str)),(566,("law":Str))]:List (Addr×Str))):q2 = "_law_is_put":=by simpa using h
theorem Nl(P:Params):((K P).lookup 570).bind bJ=some (566,("law":Str)):=(Hh P).2.2.1
theorem Th{q2:Str}(h:((566:Addr),q2)∈([(559,("_law_is_put":Str)),(566,("law":Str))]:List (Addr×Str))):q2 = "law":=by simpa using h
theorem nX(P:Params):(KF P).lookup 559=some (tabObj #[])/\(K P).lookup 559=none:=⟨(Hh P).2.2.2.1,(Hh P).2.2.2.2.2.1⟩
theorem Ju(P:Params):(KF P).lookup 566=some (tabObj #[])/\(K P).lookup 566=none:=⟨(Hh P).2.2.2.2.1,(Hh P).2.2.2.2.2.2⟩
theorem left:LeftO R.row.prog V LO Xt HK.obs HK.val 20000:=
 LeftO.of_pieces (H₀:=boot_heap) (H₁:=hT) (gs₀:=#[]) (gs₁:=#[]) (d₀:=boot_drawn) (d₁:={}) (k₀:=boot_toks) (k₁:=993) (m₀:=11) (ann:=some (.ref 6)) (M:=20000)
  (boot_open ⟨⟩ ⟨⟩ (fun s=>⟨⟩)) (fun w=>⟨⟩) run ⟨⟩ seen
end K12.H
namespace L2
open PySem PySem.Spec PyProof.Rows
noncomputable def iz(A:Around)(h:Heap):Prop:=A.handled=none\/∃(e:Addr) (oe:Obj) (vs:Array Value),A.handled=some (.ref e)/\h.get? e=some oe/\oe.data = .fields vs/\vs[2]? = some .none
theorem A3:entryFor table "proto.unchain"=some Builtin.«proto.unchain»:=entryFor_of_tree ⟨⟩
section
variable {prog:Program}{w:World}{A:Around}{E:Value->Shared->Prop}{s:Shared}
theorem Ds{x e:Addr}{oe:Obj}{vs:Array Value}{Q:Value->Shared->Prop}(he:s.heap.get? e=some oe)(hd:oe.data = .fields vs)(h2:vs[2]? = some .none)(h:Q .none s) :
  wpAny (model prog w) A (runValue (.builtin "proto.unchain" ⟨[.ref x,.ref e,.ref e,.bool false],[]⟩)) Q E s:=by
 refine wpAny_runValue (codeAny_builtin A3 ?_)
 unfold Builtin.«proto.unchain»
 dsimp only
 refine wpAny_bind (wpAny_field he hd h2 ?_)
 rw[if_pos (by rfl)]
 exact wpAny_pure h
theorem yv{α:Type}{a:Addr}{oa:Obj}{ws:Array Value}{Q:α->Shared->Prop}(q:iz A s.heap)(ha:s.heap.get? a=some oa)(hda:oa.data = .fields ws)(hz:2<ws.size)
  (hnew:∀e oe,A.handled=some (.ref e)->s.heap.get? e=some oe->e≠a)
  (h:∀h',Heap.ExtBut a s.heap h'->(∃o',h'.get? a=some o'/\o'.cls=oa.cls)->E (.ref a) {s with heap:=h'}):wpAny (model prog w) A (raiseNew (.ref a):Sem α) Q E s:=by
 unfold raiseNew
 refine wpAny_bind (wpAny_handled ?_)
 rcases q with q|⟨e,oe,vs,q,he,hd,h2⟩
 ·rw[q]
  exact wpAny_bind (wpAny_pure (wpAny_throw (h s.heap (fun b o _ z=>z) ⟨oa,ha,rfl⟩)))
 ·rw[q]
  have ne:e≠a:=hnew e oe q he
  dsimp only
  rw[if_pos (by simp[ne])]
  refine wpAny_bind (wpAny_holding (Ds he hd h2 ?_))
  refine wpAny_bind ?_
  refine wpAny_setField ha hda hz (wpAny_throw ?_)
  have hd':=Obj.data_mapFields hda (·.setIfInBounds 2 (Value.ref e))
  exact h _ (Heap.SameBut.update ..).extBut ⟨_,Heap.get?_update_self _ ha (Obj.isFreed_of_fields hd'),Obj.cls_mapFields ..⟩
theorem yB{it:Addr}{α:Type}{h0:Heap}{Q:α->Shared->Prop}(q:iz A s.heap)(k:Heap.ExtBut it h0 s.heap)(kl:∀e oe,A.handled=some (.ref e)->s.heap.get? e=some oe->True)
  (h:∀h' a,Heap.ExtBut it h0 h'->(∃o',h'.get? a=some o'/\o'.cls = .type "StopIteration")->E (.ref a) {s with heap:=h'}):wpAny (model prog w) A (newExc (.type "StopIteration") []>>=fun e=>(raiseNew e:Sem α)) Q E s:=by
 refine wpAny_bind ?_;simp only[newExc,newTuple]
 refine wpAny_bind (wpAny_newObj_type ?_ (by size_fits));refine wpAny_bind (m:=firstArgMember _ _) (wpAny_of_eq (a:=Value.none) (by first|rfl|(simp only[firstArgMember];rfl)) ?_);refine wpAny_newObj_type ?_ (by size_fits)
 have q':∀o1 o2:Obj,iz A ((s.heap.push o1).push o2):=fun o1 o2=>by
  rcases q with q|⟨e,oe,vs,q,he,r⟩
  ·exact .inl q
  ·exact .inr ⟨e,oe,vs,q,Heap.get?_push_of_some _ (Heap.get?_push_of_some _ he),r⟩
 refine yv (q' _ _) (Heap.get?_push_size _ rfl) rfl (by rw[Array.size_append];exact lt_of_lt_of_le (by decide:2<6) (Nat.le_add_right _ _)) (fun e oe hq he z=>?_) fun h' hx ⟨o',ho',hc'⟩=>h h' _ (fun b o hb e=>hx b o ?_ (Heap.get?_push_of_some _ (Heap.get?_push_of_some _ (k b o hb e)))) ⟨o',ho',hc'⟩
 ·rcases q with q|⟨e1,oe1,vs,q,he1,r⟩
  ·rw[q] at hq;cases hq
  ·rw[q] at hq;cases hq
   exact absurd (Heap.lt_size he1) (by rw[z];simp)
 ·exact ne_of_lt (lt_of_lt_of_le (Heap.lt_size (k b o hb e)) (by simp))
theorem tq{it:Addr}{o:Obj}{ws:Array Value}{f:Array Value->Array Value}(q:iz A s.heap)(ho:s.heap.get? it=some o)(hd:o.data = .fields ws)(hn:∀e,A.handled=some (.ref e)->e≠it):iz A (s.heap.update it (Obj.mapFields f)):=by
 rcases q with q|⟨e,oe,vs,q,he,r⟩
 ·exact .inl q
 ·exact .inr ⟨e,oe,vs,q,by rw[Heap.get?_update_other _ _ (Ne.symm (hn e q))];exact he,r⟩
theorem AU{it l:Addr}{i:Nat}{items}{Q:Option Value->Shared->Prop}(q:iz A s.heap)(hn:∀e,A.handled=some (.ref e)->e≠it)(hit:s.heap.IsListIter it l i)(hl:s.heap.IsList l items)(hx:items[i]? = none)
  (hQ:∀h',Heap.ExtBut it s.heap h'->Q none {s with heap:=h'}):wpAny (model prog w) A (pyNext (.ref it)) Q E s:=by
 obtain⟨o,ho,hc,hd⟩:=id hit
 obtain⟨ol,hol,_,nl,hdl⟩:=hl;unfold pyNext
 refine wpAny_bind (wpAny_attempt (wpAny_callSpecial?_slot (name:=Str.ofString "__next__") hit.typeIs slot_listiter_next (wpAny_call_entry slot_listiter_next hit.typeIs entry_listiter_next ?_ (args_listiter_next _))))
 show wpAny _ _ (field (.ref it) 0>>=_) _ _ s;refine wpAny_bind (wpAny_field ho hd (x:=.ref l) rfl ?_)
 show wpAny _ _ (if (Value.ref l==Value.none)=true then _ else _) _ _ s;rw[if_neg (show ¬ ((Value.ref l==Value.none)=true) from Bool.false_ne_true)]
 show wpAny _ _ (field (.ref it) 1>>=_) _ _ s;refine wpAny_bind (wpAny_field ho hd (x:=.int i 0) rfl ?_)
 show wpAny _ _ (seqItems? (.ref l)>>=_) _ _ s;refine wpAny_bind (wpAny_seqItems hol hdl ?_);simp only[Int.toNat_natCast,hx]
 refine wpAny_bind (wpAny_rule (wpAny_bind (wpAny_setField ho hd (by simp) ?_)))
 refine yB (it:=it) (h0:=s.heap) (A:=A.in1) (tq (A:=A.in1) q ho hd hn) (Heap.SameBut.update ..).extBut (fun _ _ _ _=>trivial) fun h' a hx' hq0=>?_
 obtain⟨o',ho',hc'⟩:=hq0
 refine wpAny_bind (wpAny_isInstance (T:="StopIteration") (b:=true) ⟨_,ho',hc'⟩ isSubtype_stop ?_);exact wpAny_pure (hQ _ hx')
theorem tK{it t:Addr}{i:Nat}{items}{Q:Option Value->Shared->Prop}(q:iz A s.heap)(hn:∀e,A.handled=some (.ref e)->e≠it)(hit:IsTupIter s.heap it t i)(ht:IsTup s.heap t items)(hx:items[i]? = none)
  (hQ:∀h',Heap.ExtBut it s.heap h'->Q none {s with heap:=h'}):wpAny (model prog w) A (pyNext (.ref it)) Q E s:=by
 obtain⟨o,ho,hc,hd⟩:=id hit
 obtain⟨ol,hol,_,nl,hdl⟩:=ht;unfold pyNext
 refine wpAny_bind (wpAny_attempt (wpAny_callSpecial?_slot (name:=Str.ofString "__next__") hit.typeIs slot_tupleiter_next (wpAny_call_entry slot_tupleiter_next hit.typeIs entry_tupleiter_next ?_ (args_tupleiter_next _))))
 show wpAny _ _ (field (.ref it) 0>>=_) _ _ s;refine wpAny_bind (wpAny_field ho hd (x:=.ref t) rfl ?_)
 show wpAny _ _ (if (Value.ref t==Value.none)=true then _ else _) _ _ s;rw[if_neg (show ¬ ((Value.ref t==Value.none)=true) from Bool.false_ne_true)]
 show wpAny _ _ (field (.ref it) 1>>=_) _ _ s;refine wpAny_bind (wpAny_field ho hd (x:=.int i 0) rfl ?_)
 show wpAny _ _ (seqItems? (.ref t)>>=_) _ _ s;refine wpAny_bind (wpAny_seqItems hol hdl ?_);simp only[Int.toNat_natCast,hx]
 refine wpAny_bind (wpAny_rule (wpAny_bind (wpAny_setField ho hd (by simp) ?_)))
 refine yB (it:=it) (h0:=s.heap) (A:=A.in1) (tq (A:=A.in1) q ho hd hn) (Heap.SameBut.update ..).extBut (fun _ _ _ _=>trivial) fun h' a hx' hq0=>?_
 obtain⟨o',ho',hc'⟩:=hq0
 refine wpAny_bind (wpAny_isInstance (T:="StopIteration") (b:=true) ⟨_,ho',hc'⟩ isSubtype_stop ?_);exact wpAny_pure (hQ _ hx')
theorem AR{env:Env}{elts:List Expr}{x1}{pos:Pos}{t:Addr}{items:Array Value}{Q:Unit->Shared->Prop}(q:iz A s.heap)(ht:IsTup s.heap t items)(hn:(assignEach elts env).length=items.size)
  (hstar:(assignEach elts env).findIdx? (·.1)=none) (h:∀h',Heap.ExtBut s.heap.objs.size s.heap h'->wpAny (model prog w) A (assignInOrder ((assignEach elts env).map (·.2)) items.toList) Q E {s with heap:=h'}) :
  wpAny (model prog w) A (assign (.Tuple elts x1 pos) env (.ref t)) Q E s:=by
 rw[assign_Tuple]
 refine wpAny_bind (wpAny_standAt ?_)
 unfold unpack;rw[hn,hstar]
 refine wpAny_bind (wpAny_holding ?_)
 have hlt:t≠s.heap.objs.size:=by obtain⟨o,ho,_⟩:=ht;exact ne_of_lt (Heap.lt_size ho)
 unfold unpackItems;refine wpAny_bind ?_
 unfold notIterableAtAll;refine wpAny_bind (wpAny_specialOf ht.typeIs slot_tuple_iter.lookup ?_);refine wpAny_pure ?_;simp only[false_eq_true,if_false]
 refine wpAny_bind (wpAny_holding (iter_tuple ht ?_))
 refine wpAny_bind (wpAny_holding (draw_tuple hlt items.size 0 _ _ ⟨_,Heap.get?_push_size _ rfl,rfl,rfl⟩ (ht.push _) ∅ fun kw wl tz=>?_))
 rw[show List.take items.size (List.drop 0 items.toList)=items.toList from by rw[List.drop_zero];exact take_of_length_le (by simp),if_neg (by simp)]
 have fr:∀e,A.handled=some (.ref e)->e≠s.heap.objs.size:=fun e hq=>by
  rcases q with q|⟨e1,oe1,vs,q,he1,r⟩
  ·rw[q] at hq;cases hq
  ·rw[q] at hq;cases hq;exact ne_of_lt (Heap.lt_size he1)
 have q1:iz A kw:=by
  rcases q with q|⟨e,oe,vs,q,he,r⟩
  ·exact .inl q
  ·exact .inr ⟨e,oe,vs,q,tz.extBut e oe (fr e q) (Heap.get?_push_of_some _ he),r⟩
 refine wpAny_bind (wpAny_holding (tK q1 fr wl ((ht.push _).extBut tz.extBut hlt) (by simp) fun sB wS=>?_));simp only[Option.isSome_none,false_eq_true,if_false]
 exact wpAny_pure (h sB fun b o hb e=>wS b o hb (tz.extBut b o hb (Heap.get?_push_of_some _ e)))
end
end L2
namespace L2
open PySem PySem.Spec PyProof.Rows
noncomputable abbrev Key:=Sum Int Str
noncomputable def Qb:Key->Value->Bool
 |.inl k,v=>Value.isInt k v
 |.inr x,v=>Value.isStrOf x v
noncomputable def UM(w:World):Key->Int
 |.inl k=>hashInt k
 |.inr x=>hashStr w x
theorem cP:∀{k:Key} {v:Value},Qb k v=true->(∃i t,k=Sum.inl i/\v=Value.int i t)\/(∃x t,k=Sum.inr x/\v=Value.str x t)
 |.inl i,v,h=>by
  obtain⟨t,e⟩:=Value.isInt_shape (k:=i) (v:=v) h
  exact .inl ⟨i,t,rfl,e⟩
 |.inr x,v,h=>by
  obtain⟨t,e⟩:=Value.isStrOf_shape (x:=x) (v:=v) h
  exact .inr ⟨x,t,rfl,e⟩
theorem R9(a b:Int):decide ((Sum.inl a:Key)=Sum.inl b)=(a==b):=by
 by_cases e:a=b
 ·subst e;simp
 ·have h:¬ (Sum.inl a:Key)=Sum.inl b:=fun q=>e (Sum.inl.inj q)
  rw[decide_eq_false h]
  exact (beq_eq_false_iff_ne.mpr e).symm
theorem QD(a b:Str):decide ((Sum.inr a:Key)=Sum.inr b)=decide (a=b):=by
 by_cases e:a=b
 ·subst e;simp
 ·have h:¬ (Sum.inr a:Key)=Sum.inr b:=fun q=>e (Sum.inr.inj q)
  rw[decide_eq_false h,decide_eq_false e]
theorem RW(a:Int)(b:Str):decide ((Sum.inl a:Key)=Sum.inr b)=false:=decide_eq_false (fun q=>nomatch q)
theorem Sr(a:Str)(b:Int):decide ((Sum.inr a:Key)=Sum.inl b)=false:=decide_eq_false (fun q=>nomatch q)
noncomputable def JM(prog:Program)(w:World):PySem.KeyKind prog w Key where
 is:=Qb
 hash:=UM w
 inj:=fun v a b ha hb=>by
  rcases cP ha with ⟨i,t,rfl,rfl⟩|⟨x,t,rfl,rfl⟩
  ·rcases cP hb with ⟨j,u,rfl,e⟩|⟨y,u,rfl,e⟩
   ·injection e with e1 _;rw[e1]
   ·exact nomatch e
  ·rcases cP hb with ⟨j,u,rfl,e⟩|⟨y,u,rfl,e⟩
   ·exact nomatch e
   ·injection e with e1 _;rw[e1]
 byValue:=fun k v h=>by
  rcases cP h with ⟨i,t,rfl,rfl⟩|⟨x,t,rfl,rfl⟩<;>rfl
 pyHash:=fun hv h=>by
  rcases cP hv with ⟨i,t,rfl,rfl⟩|⟨x,t,rfl,rfl⟩
  ·exact wpAny_pyHash_int h
  ·exact wpAny_pyHash_str h
 eqBool:=fun hu hv h=>by
  rcases cP hu with ⟨i,t,rfl,rfl⟩|⟨x,t,rfl,rfl⟩
  ·rcases cP hv with ⟨j,u,rfl,rfl⟩|⟨y,u,rfl,rfl⟩
   ·rw[R9] at h;exact wpAny_eqBool_int h
   ·rw[RW] at h;exact SeqAt.EqAt.int_str i t y u _ _ _ _ h
  ·rcases cP hv with ⟨j,u,rfl,rfl⟩|⟨y,u,rfl,rfl⟩
   ·rw[Sr] at h;exact SeqAt.EqAt.str_int x t j u _ _ _ _ h
   ·rw[QD] at h;exact wpAny_eqBool_str h
 «strs»:=fun k x t v h=>by
  rcases cP h with ⟨i,u,rfl,e⟩|⟨y,u,rfl,e⟩
  ·exact nomatch e
  ·injection e with e1 _
   subst e1
   cases v<;>rfl
end L2
namespace L2
open PySem PySem.Spec PyProof.Rows
inductive V where
 |non|bl (b:Bool)|int (i:Int)|str (x:Str)|byt (b:Array UInt8)|flt (b:UInt64)|ref (a:Addr)|ty (n:String)
 deriving DecidableEq
noncomputable def RelV:V->Value->Prop
 |.non,u=>u=Value.none
 |.bl b,u=>u=Value.bool b
 |.int i,u=>∃t,u=Value.int i t
 |.str x,u=>∃t,u=Value.str x t
 |.byt b,u=>∃t,u=Value.bytes b t
 |.flt b,u=>∃t,u=Value.float b t
 |.ref a,u=>u=Value.ref a
 |.ty n,u=>u=Value.type n
noncomputable abbrev Vals:List V->List Value->Prop:=Paired RelV
theorem Vals.length{xs:List V}{us:List Value}(r:Vals xs us):xs.length=us.length:=Paired.length r
theorem Vals.get:∀{xs:List V} {us:List Value} {i:Nat} {x:V},Vals xs us->xs[i]? = some x->∃u,us[i]? = some u/\RelV x u
 |_,_,_,_,.nil,e=>by simp at e
 |_,_,0,_,.cons r _,e=>by simp at e;subst e;exact⟨_,rfl,r⟩
 |_,_,i+1,x,.cons _ t,e=>by
  obtain⟨u,h1,h2⟩:=Vals.get (i:=i) (x:=x) t (by simpa using e)
  exact⟨u,by simpa using h1,h2⟩
theorem Vals.set{x:V}{u:Value}(r:RelV x u):∀{xs:List V} {us:List Value} (i:Nat),Vals xs us->Vals (xs.set i x) (us.set i u)
 |_,_,_,.nil=>.nil
 |_,_,0,.cons _ t=>.cons r t
 |_,_,i+1,.cons q t=>.cons q (Vals.set r i t)
theorem Vals.append:∀{xs ys:List V} {us ws:List Value},Vals xs us->Vals ys ws->Vals (xs++ys) (us++ws)
 |_,_,_,_,.nil,s=>s
 |_,_,_,_,.cons r t,s=>.cons r (Vals.append t s)
theorem Vals.take:∀{xs:List V} {us:List Value} (n:Nat),Vals xs us->Vals (xs.take n) (us.take n)
 |_,_,0,_=>.nil
 |_,_,_+1,.nil=>.nil
 |_,_,n+1,.cons r t=>.cons r (Vals.take n t)
theorem Vals.drop:∀{xs:List V} {us:List Value} (n:Nat),Vals xs us->Vals (xs.drop n) (us.drop n)
 |_,_,0,r=>r
 |_,_,_+1,.nil=>.nil
 |_,_,n+1,.cons _ t=>Vals.drop n t
noncomputable def SX:Option V->Option Value->Prop
 |some v,some u=>RelV v u
 |none,none=>True
 |_,_=>False
noncomputable def KV{κ:Type}:List (κ×V)->List (κ×Value)->Prop:=Paired fun (p:κ×V) (q:κ×Value)=>p.1=q.1/\RelV p.2 q.2
noncomputable def kV:Key->V
 |.inl i=>.int i
 |.inr x=>.str x
inductive HO where
  /-- a list -/
 |lst (xs:List V)
  /-- a tuple (never changes) -/
 |tup (xs:List V)
  /-- a dict whose keys are ints and texts; one whose keys are tuples of ints and texts (the empty one is both) -/
 |dK (kvs:List (Key×V))|dT (kvs:List (List Key×V))
  /-- a set of ints: its members, its size -/
 |set (S:Int->Bool) (n:Nat)
  /-- an instance of the class at C, its dict at dx, its attributes -/
 |ins (C dx:Addr) (fs:List (Str×V))
  /-- the dict of the instance at x -/
 |own (x:Addr)
  /-- the dict of an exception -/
 |xd (fs:List (Str×V))
  /-- a bound method, f of x -/
 |met (f x:Addr)
  /-- a range object lo, lo + 1, .. below hi -/
 |rng (lo hi:Int)
  /-- a thing that is known to the object (the script; a dict while a loop walks it): read, never written while it is so -/
 |frz (o:Obj) (u:HO)
  /-- a code object's table -/
 |tbl (ps:Array Value)
  /-- any other thing, by what is true of its one object (a def of one's own: SetO a S n := HO.ext fun h => ..) -/
 |ext (φ:Heap->Prop)
  /-- the object itself; it may change -/
 |raw (o:Obj)
noncomputable abbrev Hp:=Addr->Option HO
noncomputable def upd(H:Hp)(a:Addr)(o:HO):Hp:=fun b=>if b=a then some o else H b
theorem bS{H:Hp}{a:Addr}{o:HO}:upd H a o a=some o:=by unfold upd;rw[if_pos rfl]
theorem aP{H:Hp}{a b:Addr}{o:HO}(h:b≠a):upd H a o b=H b:=by unfold upd;rw[if_neg h]
theorem aI{H:Hp}{a b:Addr}{o:HO}(h:H a=some o)(h':H b=none):a≠b:=by
 intro e;subst e;rw[h] at h';cases h'
section
variable (P:Program)(w:World)
noncomputable def iM(H:Hp)(h:Heap)(a:Addr):HO->Prop
 |.lst xs=>xs.length<=sizeLine/\∃(its:List Value) (n:Nat),Vals xs its/\h.get? a=some {cls:=.type "list",data:=.seq its.toArray n}
 |.tup xs=>xs.length<=sizeLine/\∃its:List Value,Vals xs its/\IsTup h a its.toArray
 |.dK kvs=>kvs.length<=sizeLine/\(a==sysModules)=false/\∃vs,KV kvs vs/\h.DictOf (JM P w) a vs
 |.dT kvs=>kvs.length<=sizeLine/\(a==sysModules)=false/\∃xs:List (List Key×Addr×Value),
   Paired (fun (p:List Key×V) (q:List Key×Addr×Value)=>p.1=q.1/\H q.2.1=some (.tup (p.1.map kV))/\RelV p.2 q.2.2) kvs xs /\
   ∃o es ep,h.get? a=some o/\o.ExactDict/\o.data = .dict es ep/\es.toList=xs.map (entryOfKey (tupleKind (JM P w)))/\(xs.map (·.1)).Nodup
 |.set S n=>h.SetOf (intKind P w) a S n
 |.ins C dx fs=>H dx=some (.own a)/\fs.length<=1000/\dx≠a/\h.get? a=some (PySem.W.instObj C dx) /\
   ∃mA,h.Ns1 dx mA/\(∀f,SX (fs.lookup f) (mA f))/\PySem.Within mA (fs.map (·.1))
 |.own _=>∃o,h.get? a=some o
 |.xd fs=>∃mA,h.Ns1 a mA/\∀f,SX (fs.lookup f) (mA f)
 |.rng lo hi=>∃t u v,h.get? a=some {cls:=.type "range",data:=.fields #[.int lo t,.int hi u,.int 1 v]}
 |.frz o u=>h.get? a=some o/\iM H h a u
 |.tbl ps=>h.get? a=some {cls:=.none,data:=.fields ps}
 |.met f x=>h.get? a=some (PySem.W.methodObj (.ref f) (.ref x))
 |.ext φ=>φ h/\(∃o,h.get? a=some o)/\∀h1 h2:Heap,φ h1->(∀o,h1.get? a=some o->h2.get? a=some o)->φ h2
 |.raw o=>h.get? a=some o
noncomputable def HOk(H:Hp)(h:Heap):Prop:=∀a o,H a=some o->iM P w H h a o
end
section
variable {P:Program}{w:World}{H H':Hp}{h h':Heap}{a:Addr}{o:HO}
theorem iM.lt(x:iM P w H h a o):a<h.objs.size:=by
 cases o with
 |lst xs=>obtain⟨_,_,_,_,e⟩:=x;exact Heap.lt_size e
 |tup xs=>obtain⟨_,_,_,p⟩:=x;exact p.lt
 |dK kvs=>obtain⟨_,_,_,_,o,_,_,e,_⟩:=x;exact Heap.lt_size e
 |dT kvs=>obtain⟨_,_,_,_,o,_,_,e,_⟩:=x;exact Heap.lt_size e
 |set S n=>obtain⟨o,_,_,_,e,_⟩:=x;exact Heap.lt_size e
 |ins C dx fs=>obtain⟨_,_,_,e,_⟩:=x;exact Heap.lt_size e
 |own y=>obtain⟨_,e⟩:=x;exact Heap.lt_size e
 |xd fs=>obtain⟨_,⟨_,_,_,e,_⟩,_⟩:=x;exact Heap.lt_size e
 |rng lo hi=>obtain⟨_,_,_,e⟩:=x;exact Heap.lt_size e
 |frz ob u=>obtain⟨e,_⟩:=x;exact Heap.lt_size e
 |tbl ps=>exact Heap.lt_size (show h.get? a=some _ from x)
 |met f y=>exact Heap.lt_size (show h.get? a=some _ from x)
 |ext φ=>obtain⟨_,⟨_,e⟩,_⟩:=x;exact Heap.lt_size e
 |raw ob=>exact Heap.lt_size (show h.get? a=some ob from x)
theorem Paired.O5{α β:Type}{F G:α->β->Prop}:∀{wP:List α} {wp:List β},Paired F wP wp->(∀a b,F a b->G a b)->Paired G wP wp
 |_,_,.nil,_=>.nil
 |_,_,.cons r t,f=>.cons (f _ _ r) (Paired.O5 t f)
theorem iM.xa(x:iM P w H h a o)(k:∀b u,(b=a\/H b=some (.own a))->h.get? b=some u->h'.get? b=some u)
  (ho:∀b,H b=some (.own a)->H' b=some (.own a)) (ht:∀b xs,H b=some (.tup xs)->H' b=some (.tup xs)):iM P w H' h' a o:=by
 induction o with
 |lst xs=>obtain⟨z,its,n,r,e⟩:=x;exact⟨z,its,n,r,k _ _ (.inl rfl) e⟩
 |tup xs=>obtain⟨z,its,r,ob,e,c⟩:=x;exact⟨z,its,r,ob,k _ _ (.inl rfl) e,c⟩
 |dK kvs=>obtain⟨z,y,vs,r,ob,es,ep,e,c⟩:=x;exact⟨z,y,vs,r,ob,es,ep,k _ _ (.inl rfl) e,c⟩
 |dT kvs=>
  obtain⟨z,y,xs,r,ob,es,ep,e,c⟩:=x
  exact⟨z,y,xs,Paired.O5 r fun p q z=>⟨z.1,ht _ _ z.2.1,z.2.2⟩,ob,es,ep,k _ _ (.inl rfl) e,c⟩
 |set S n=>obtain⟨ob,es,ep,t,e,c⟩:=x;exact⟨ob,es,ep,t,k _ _ (.inl rfl) e,c⟩
 |ins C dx fs=>
  obtain⟨d,z,ne,e,mA,⟨od,es,ep,e2,c⟩,r⟩:=x
  exact⟨ho _ d,z,ne,k _ _ (.inl rfl) e,mA,⟨od,es,ep,k _ _ (.inr d) e2,c⟩,r⟩
 |own y=>obtain⟨ob,e⟩:=x;exact⟨ob,k _ _ (.inl rfl) e⟩
 |xd fs=>obtain⟨mA,⟨od,es,ep,e,c⟩,r⟩:=x;exact⟨mA,⟨od,es,ep,k _ _ (.inl rfl) e,c⟩,r⟩
 |rng lo hi=>obtain⟨t,u,v,e⟩:=x;exact⟨t,u,v,k _ _ (.inl rfl) e⟩
 |frz ob u ih=>obtain⟨e,q⟩:=x;exact⟨k _ _ (.inl rfl) e,ih q⟩
 |tbl ps=>
  have e:h.get? a=some {cls:=.none,data:=.fields ps}:=x
  show h'.get? a=some {cls:=.none,data:=.fields ps}
  exact k a _ (.inl rfl) e
 |met f y=>
  have e:h.get? a=some (PySem.W.methodObj (.ref f) (.ref y)):=x
  show h'.get? a=some (PySem.W.methodObj (.ref f) (.ref y))
  exact k a _ (.inl rfl) e
 |raw ob=>
  have e:h.get? a=some ob:=x
  show h'.get? a=some ob
  exact k a _ (.inl rfl) e
 |ext φ=>obtain⟨p,⟨o,e⟩,st⟩:=x;exact⟨st _ _ p fun o q=>k _ _ (.inl rfl) q,⟨o,k _ _ (.inl rfl) e⟩,st⟩
theorem HOk.lt(x:HOk P w H h)(e:H a=some o):a<h.objs.size:=(x a o e).lt
theorem HOk.fresh(x:HOk P w H h)(e:h.objs.size<=a):H a=none:=by
 cases q:H a with
 |none=>rfl
 |some u=>exact absurd (lt_of_lt_of_le (x.lt q) e) (lt_irrefl _)
theorem HOk.kept(x:HOk P w H h)(k:∀b u,h.get? b=some u->h'.get? b=some u):HOk P w H h':=fun a o e=>
 (x a o e).xa (fun b u _ q=>k b u q) (fun _ q=>q) fun _ _ q=>q
theorem HOk.laid(x:HOk P w H h)(k:∀b u,h.get? b=some u->h'.get? b=some u)(hp:h.objs.size<=a)(new:iM P w (upd H a o) h' a o):HOk P w (upd H a o) h':=fun b u e=>by
 have hn:=x.fresh hp
 by_cases hb:b=a
 ·subst hb;rw[bS] at e;cases e;exact new
 ·rw[aP hb] at e
  exact (x b u e).xa (fun c v _ q=>k c v q) (fun c q=>by rw[aP (aI q hn)];exact q) fun c xs q=>by rw[aP (aI q hn)];exact q
end
noncomputable def Rd(H:Hp)(a:Addr)(u:HO):Prop:=H a=some u\/∃o,H a=some (.frz o u)
theorem Rd.ok{P:Program}{w:World}{H:Hp}{h:Heap}{a:Addr}{u:HO}(r:Rd H a u)(x:HOk P w H h):iM P w H h a u:=by
 rcases r with r|⟨o,r⟩
 ·exact x a u r
 ·obtain⟨_,q⟩:=x a _ r
  exact q
noncomputable def Mut:Option HO->Prop
 |some (.lst _)=>True
 |some (.dK _)=>True
 |some (.dT _)=>True
 |some (.set _ _)=>True
 |some (.ins _ _ _)=>True
 |some (.ext _)=>True
 |some (.raw _)=>True
 |_=>False
section
variable {P:Program}{w:World}{H:Hp}{h h':Heap}{x e:Addr}{o':HO}
theorem HOk.write(ok:HOk P w H h)(mu:Mut (H x))(he:e=x\/H e=some (.own x))(k:∀b u,b≠e->h.get? b=some u->h'.get? b=some u)(heo:∃u,h'.get? e=some u)
  (new:iM P w (upd H x o') h' x o'):HOk P w (upd H x o') h':=fun b u q=>by
 have nown:∀c y,H c=some (.own y)->c≠x:=fun c y r z=>by subst z;rw[r] at mu;exact mu
 have ntup:∀c xs,H c=some (.tup xs)->c≠x:=fun c xs r z=>by subst z;rw[r] at mu;exact mu
 by_cases hb:b=x
 ·subst hb;rw[bS] at q;cases q;exact new
 ·rw[aP hb] at q
  by_cases hbe:b=e
  ·have q':H b=some (.own x):=by
    rcases he with z|z
    ·exact absurd (hbe.trans z) hb
    ·rw[hbe];exact z
   rw[q] at q';cases q'
   obtain⟨v,hv⟩:=heo
   exact⟨v,by rw[hbe];exact hv⟩
  ·refine (ok b u q).xa (fun c v hc r=>k c v ?_ r) (fun c r=>by rw[aP (nown c b r)];exact r) fun c xs r=>by rw[aP (ntup c xs r)];exact r
   rcases hc with rfl|hc
   ·exact hbe
   ·rintro rfl
    rcases he with z|z
    ·exact nown c b hc z
    ·rw[hc] at z;cases z;exact hb rfl
end
structure Un(fs ex:List Addr)(H H':Hp)(h h':Heap):Prop where
 keep:∀b o,h.get? b=some o->H b=none->b ∉ fs->b ∉ ex->h'.get? b=some o
 slot:∀b o,h.get? b=some o->H b=none->b∈fs->b ∉ ex->∃sl,h'.get? b=some {o with slots:=sl}
 free:∀b o,h.get? b=some o->H b=none->b ∉ ex->H' b=none
 there:∀b o,h.get? b=some o->b ∉ ex->∃o',h'.get? b=some o'
 rR:∀b xs,H b=some (.tup xs)->H' b=some (.tup xs)
 qv:∀b o u,H b=some (.frz o u)->H' b=some (.frz o u)
 qr:∀b ps,H b=some (.tbl ps)->∃more,H' b=some (.tbl (ps++more))
section
variable {fs fs' ex ex':List Addr}{H H1 H2:Hp}{h h1 h2 h':Heap}{a x e:Addr}{o:HO}
theorem Un.any(u:Un fs ex H H1 h h1){b:Addr}{ob:Obj}(q:h.get? b=some ob)(n:H b=none)(hx:b ∉ ex):∃sl,h1.get? b=some {ob with slots:=sl}:=by
 by_cases hb:b∈fs
 ·exact u.slot b ob q n hb hx
 ·exact⟨ob.slots,u.keep b ob q n hb hx⟩
theorem Un.trans(a:Un fs ex H H1 h h1)(b:Un fs ex H1 H2 h1 h2):Un fs ex H H2 h h2 where
 keep:=fun c ob q n hc hx=>b.keep c ob (a.keep c ob q n hc hx) (a.free c ob q n hx) hc hx
 slot:=fun c ob q n hc hx=>by
  obtain⟨sl,e1⟩:=a.slot c ob q n hc hx
  obtain⟨sl',e2⟩:=b.slot c _ e1 (a.free c ob q n hx) hc hx
  exact⟨sl',e2⟩
 free:=fun c ob q n hx=>by
  obtain⟨o',e1⟩:=a.there c ob q hx
  exact b.free c o' e1 (a.free c ob q n hx) hx
 there:=fun c ob q hx=>by
  obtain⟨o',e1⟩:=a.there c ob q hx
  exact b.there c o' e1 hx
 rR:=fun c xs q=>b.rR c xs (a.rR c xs q)
 qv:=fun c ob xs q=>b.qv c ob xs (a.qv c ob xs q)
 qr:=fun c ps q=>by
  obtain⟨m1,e1⟩:=a.qr c ps q
  obtain⟨m2,e2⟩:=b.qr c _ e1
  exact⟨m1++m2,by rw[e2,Array.append_assoc]⟩
theorem Un.kept(k:∀b u,h.get? b=some u->h'.get? b=some u):Un fs ex H H h h':=
 ⟨fun b ob q _ _ _=>k b ob q,fun b ob q _ _ _=>⟨ob.slots,k b ob q⟩,fun _ _ _ n _=>n,fun b ob q _=>⟨ob,k b ob q⟩,fun _ _ q=>q,fun _ _ _ q=>q,fun _ ps q=>⟨#[],by rw[q];simp⟩⟩
theorem Un.refl:Un fs ex H H h h:=Un.kept fun _ _ q=>q
theorem Un.laid(k:∀b u,h.get? b=some u->h'.get? b=some u)(hp:h.objs.size<=a)(hn:H a=none):Un fs ex H (upd H a o) h h' where
 keep:=fun b u q _ _ _=>k b u q
 slot:=fun b u q _ _ _=>⟨u.slots,k b u q⟩
 free:=fun b u q n _=>by rw[aP (ne_of_lt (lt_of_lt_of_le (Heap.lt_size q) hp))];exact n
 there:=fun b u q _=>⟨u,k b u q⟩
 rR:=fun b xs q=>by rw[aP (aI q hn)];exact q
 qv:=fun b u xs q=>by rw[aP (aI q hn)];exact q
 qr:=fun b ps q=>⟨#[],by rw[aP (aI q hn),q];simp⟩
theorem Un.write(mu:Mut (H x))(he:e=x\/H e=some (.own x))(k:∀b u,b≠e->h.get? b=some u->h'.get? b=some u)(heo:∃u,h'.get? e=some u):Un fs ex H (upd H x o) h h':=by
 have hx:∀b,H b=none->b≠x:=fun b n z=>by subst z;rw[n] at mu;exact mu
 have hb:∀b,H b=none->b≠e:=fun b n z=>by
  subst z
  rcases he with r|r
  ·exact hx b n r
  ·rw[n] at r;cases r
 have hm:∀b u,H b=some u->¬ Mut (some u)->b≠x:=fun b u q nm z=>by subst z;rw[q] at mu;exact nm mu
 refine⟨fun b u q n _ _=>k b u (hb b n) q,fun b u q n _ _=>⟨u.slots,k b u (hb b n) q⟩,fun b u q n _=>by rw[aP (hx b n)];exact n,fun b u q _=>?_,
  fun b xs q=>by rw[aP (hm b _ q fun z=>z)];exact q,fun b u xs q=>by rw[aP (hm b _ q fun z=>z)];exact q,fun b ps q=>⟨#[],by rw[aP (hm b _ q fun z=>z),q];simp⟩⟩
 by_cases hbe:b=e
 ·subst hbe;exact heo
 ·exact⟨u,k b u hbe q⟩
end
noncomputable def trk(h:Heap)(H:Hp):List Addr:=(List.range h.objs.size).filter fun a=>(H a).isSome
noncomputable def Cr(h:Heap)(H:Hp):Heap:=PySem.W.hideAll h (trk h H)
theorem K8(h:Heap)(H:Hp):(Cr h H).objs.size=h.objs.size:=PySem.W.hideAll_size _ _
theorem LU{h:Heap}{H:Hp}{b:Addr}{o:Obj}(e:h.get? b=some o)(n:H b=none):(Cr h H).get? b=some o:=
 PySem.W.hideAll_get _ e fun hm=>by
  have q:(H b).isSome=true:=(List.mem_filter.mp hm).2
  rw[n] at q;simp at q
theorem NX{h:Heap}{H:Hp}{b:Addr}{o:Obj}(e:(Cr h H).get? b=some o):h.get? b=some o/\H b=none:=by
 have e':h.get? b=some o:=PySem.W.of_hideAll (trk h H) e
 refine⟨e',?_⟩
 cases q:H b with
 |none=>rfl
 |some x=>
  have hm:b∈trk h H:=List.mem_filter.mpr ⟨List.mem_range.mpr (Heap.lt_size e'),by simp[q]⟩
  have z:(Cr h H).get? b=none:=PySem.W.hideAll_none (trk h H) hm
  rw[z] at e;cases e
noncomputable def Pu(g h:Heap)(L:Addr):List (Addr×Obj):=(List.range h.objs.size).filterMap fun a=>if a=L\/(g.get? a).isSome=true then none else (h.get? a).map fun o=>(a,o)
noncomputable def rest(g h:Heap)(L d:Addr):List (Addr×Obj):=(Pu g h L).filter fun p=>decide (p.1≠d)
end L2
namespace L2
open PySem PySem.Spec PyProof.Rows
structure Mod(K:PySem.W.Frag)(mg:Str->Option Value)(base:Heap):Prop where
 kin:K.In base
 glob:base.Ns mainGlobals mg
 blt:∃mb,base.Ns builtinsNs mb/\∀x:Str,x ≠ "__name__"->mb x=bootBuiltins x
 nolimit:base.NoLimit
structure Cx where
 prog:Program
 w:World
 K:PySem.W.Frag
 mg:Str->Option Value
 base:Heap
 A:Around
 N:List Str
 gl:Shared
 H₀:Hp
 env:Env
 outer:List Env
 stack:List Env
 ex:List Addr
 fn:Str->Bool
 calm:Bool
 pn:List (Addr×Obj)
 xe:Value->Shared->Prop
noncomputable def frs(l:List Env):List Addr:=l.filterMap (·.frame)
noncomputable abbrev Cx.fs(X:Cx):List Addr:=frs X.outer
noncomputable def Vis(sc:Scope)(x:Str):Prop:=sc.names.lookup x=some .local\/sc.names.lookup x=some .cell\/sc.names.lookup x=some .free
noncomputable def Loc(sc:Scope)(x:Str):Prop:=sc.names.lookup x=some .local\/sc.names.lookup x=some .cell
noncomputable def Look(env:Env)(h:Heap)(m:Str->Option Value)(x:Str)(u:Value):Prop:=
 (env.kindOf x=some .local/\m x=some u)\/((env.kindOf x=some .cell\/env.kindOf x=some .free)/\∃c,env.cells.lookup x=some c/\h.IsCell c (some u))
structure Cx.Ok(X:Cx):Prop where
 mod:Mod X.K X.mg X.base
 kind:X.env.scope.kind = .function
 glob:X.env.globals=mainGlobals
 blt:X.env.builtins=builtinsNs
 above:X.gl.heap.objs.size<=X.env.locals
 inj:∀x y c,X.env.cells.lookup x=some c->X.env.cells.lookup y=some c->x=y
 has:∀x,(X.env.kindOf x=some .cell\/X.env.kindOf x=some .free)->∃c,X.env.cells.lookup x=some c
 cab:∀x c,X.fn x=true->X.env.cells.lookup x=some c->X.gl.heap.objs.size<=c
 hd:X.calm=true->X.A.handled=none
 qt:X.A.handled=none\/∃(e:Addr) (oe:Obj) (vs:Array Value),X.A.handled=some (.ref e)/\(e,oe)∈X.pn/\oe.data = .fields vs/\vs[2]? = some .none
 frames:X.A.frames=some X.stack
 stk:X.stack=X.outer\/(X.stack=X.env::X.outer/\X.env.frame=some X.env.locals)
 exf:∀b∈X.ex,b≠X.env.locals/\∀x c,X.env.cells.lookup x=some c->c≠b
 bs:∀b o,X.base.get? b=some o->X.gl.heap.get? b=some o/\X.H₀ b=none
 bsz:X.base.objs.size<=X.gl.heap.objs.size
 KP:∀b o,X.base.get? b=some o->b ∉ X.ex
 NV:∀b∈X.ex,b ∉ X.fs
 se:X.gl.heap.FunFrames X.base X.outer
 frf:∀b∈X.fs,X.H₀ b=none
structure Inv(X:Cx)(pins:List (Addr×Obj))(σ:List (Option V))(H:Hp)(s:Shared):Prop where
 ok:X.Ok
 os:s.os=X.gl.os
 bare:AllBare s.gens
 base:Un X.fs X.ex X.H₀ H X.gl.heap s.heap
 loc:∃m,s.heap.Ns X.env.locals m/\∀(i:Nat) (x:Str) (v:V),X.N[i]? = some x->σ[i]? = some (some v)->Vis X.env.scope x->∃u,RelV v u/\Look X.env s.heap m x u
 cell:∀x c,X.env.cells.lookup x=some c->∃v,s.heap.IsCell c v
 free:H X.env.locals=none
 jE:∀x c,X.env.cells.lookup x=some c->H c=none
 pin:∀p∈X.pn++pins,s.heap.get? p.1=some p.2/\H p.1=none/\p.1≠X.env.locals/\p.1 ∉ X.fs/\∀v,p.2.data≠.cell v
 hok:HOk X.prog X.w H s.heap
 len:σ.length=X.N.length
section
variable {X:Cx}{pins:List (Addr×Obj)}{σ:List (Option V)}{H H':Hp}{s:Shared}{h':Heap}
theorem Inv.G0(I:Inv X pins σ H s):iz X.A s.heap:=by
 rcases I.ok.qt with q|⟨e,oe,vs,q,hp,r⟩
 ·exact .inl q
 ·exact .inr ⟨e,oe,vs,q,(I.pin (e,oe) (mem_append_left _ hp)).1,r⟩
theorem Inv.hne(I:Inv X pins σ H s){b:Addr}(hb:∀p∈X.pn++pins,p.1≠b):∀e,X.A.handled=some (.ref e)->e≠b:=fun e he=>by
 rcases I.ok.qt with q|⟨e1,oe,vs,q,hp,r⟩
 ·rw[q] at he;cases he
 ·rw[q] at he;cases he;exact hb (e,oe) (mem_append_left _ hp)
theorem Cx.Ok.UL(ok:X.Ok){b:Addr}{o:Obj}(e:X.base.get? b=some o):b ∉ X.fs:=fun hb=>by
 have:=(ok.se.mem hb).1
 rw[e] at this;cases this
theorem Inv.bs(I:Inv X pins σ H s):∀b o,X.base.get? b=some o->s.heap.get? b=some o/\H b=none:=fun b o e=>
 ⟨I.base.keep b o (I.ok.bs b o e).1 (I.ok.bs b o e).2 (I.ok.UL e) (I.ok.KP b o e),I.base.free b o (I.ok.bs b o e).1 (I.ok.bs b o e).2 (I.ok.KP b o e)⟩
theorem Inv.bk(I:Inv X pins σ H s):∀b o,X.base.get? b=some o->s.heap.get? b=some o:=fun b o e=>(I.bs b o e).1
theorem Inv.mod(I:Inv X pins σ H s):Mod X.K X.mg X.base:=I.ok.mod
theorem Inv.kIn(I:Inv X pins σ H s):X.K.In s.heap:=I.ok.mod.kin.keeps I.bk
theorem Inv.lt(I:Inv X pins σ H s):X.env.locals<s.heap.objs.size:=let ⟨_,hn,_⟩:=I.loc;hn.lt
theorem Inv.sz(I:Inv X pins σ H s):X.gl.heap.objs.size<=s.heap.objs.size:=le_trans I.ok.above (Nat.le_of_lt I.lt)
theorem Inv.UU(I:Inv X pins σ H s){a:Addr}(h:s.heap.objs.size<=a):a ∉ X.fs:=fun hb=>by
 obtain⟨_,o,ho,_⟩:=I.ok.se.mem hb
 exact absurd (lt_of_lt_of_le (Heap.lt_size ho) (le_trans I.sz h)) (lt_irrefl _)
theorem Inv.cne(I:Inv X pins σ H s):∀x c,X.env.cells.lookup x=some c->c≠X.env.locals:=fun x c e z=>by
 obtain⟨v,o,ho,hd⟩:=I.cell x c e
 obtain⟨m,⟨o',es,ep,ho',hd',_⟩,_⟩:=I.loc
 rw[z,ho'] at ho;cases ho;rw[hd'] at hd;cases hd
theorem Inv.se(I:Inv X pins σ H s):s.heap.FunFrames X.base X.outer:=by
 have all:∀(l:List Env),(∀b∈frs l,b∈X.fs)->X.gl.heap.FunFrames X.base l->s.heap.FunFrames X.base l:=by
  intro l
  induction l with
  |nil=>intro _ _;trivial
  |cons env r ih=>
   intro hs hl
   obtain⟨hk,⟨L,o,hf,hn,ho,hd⟩,hr⟩:=hl
   have hL:L∈X.fs:=hs L (by unfold frs;rw[filterMap_cons,hf];exact mem_cons_self)
   obtain⟨sl,e⟩:=I.base.slot L o ho (I.ok.frf L hL) hL fun z=>I.ok.NV L z hL
   exact⟨hk,⟨L,_,hf,hn,e,hd⟩,ih (fun b hb=>hs b (by unfold frs;rw[filterMap_cons,hf];exact mem_cons_of_mem _ hb)) hr⟩
 exact all X.outer (fun _ hb=>hb) I.ok.se
theorem Inv.stack(I:Inv X pins σ H s):s.heap.FunFrames X.base X.stack:=by
 rcases I.ok.stk with e|⟨e,hf⟩
 ·rw[e];exact I.se
 ·rw[e]
  obtain⟨m,hn,_⟩:=I.loc
  refine .cons (by rw[I.ok.kind];decide) hf hn ?_ I.se
  exact Heap.get?_none_of_le (le_trans I.ok.bsz I.ok.above)
theorem Inv.Dh(I:Inv X pins σ H s):∀b∈frs X.stack,b∈X.env.locals::X.fs:=fun b hb=>by
 rcases I.ok.stk with e|⟨e,hf⟩
 ·rw[e] at hb;exact mem_cons_of_mem _ hb
 ·rw[e] at hb
  unfold frs at hb
  rw[filterMap_cons,hf] at hb
  exact hb
theorem Inv.C5(I:Inv X pins σ H s):∀b∈frs X.stack,H b=none:=fun b hb=>by
 rcases List.mem_cons.mp (I.Dh b hb) with e|hb
 ·rw[e];exact I.free
 ·obtain⟨_,o,ho,_⟩:=I.ok.se.mem hb
  exact I.base.free b o ho (I.ok.frf b hb) fun z=>I.ok.NV b z hb
theorem Inv.step{g':Array GenState}{t':Nat}{d':Drawn}{ch:List Addr}(I:Inv X pins σ H s)
  (hch:∀b∈ch,(b∈X.ex\/X.gl.heap.objs.size<=b)/\b≠X.env.locals/\(∀x c,X.env.cells.lookup x=some c->c≠b)/\∀p∈X.pn++pins,p.1≠b)
  (keep:∀b o,b≠X.env.locals->b ∉ X.fs->b ∉ ch->s.heap.get? b=some o->H b=none->h'.get? b=some o)
  (slot:∀b o,b≠X.env.locals->b∈X.fs->b ∉ ch->s.heap.get? b=some o->H b=none->∃sl,h'.get? b=some {o with slots:=sl}) (free:∀b o,b ∉ ch->s.heap.get? b=some o->H b=none->H' b=none)
  (there:∀b o,b ∉ ch->s.heap.get? b=some o->∃o',h'.get? b=some o')
  (rR:∀b xs,H b=some (.tup xs)->H' b=some (.tup xs)) (qv:∀b o u,H b=some (.frz o u)->H' b=some (.frz o u)) (qr:∀b ps,H b=some (.tbl ps)->∃more,H' b=some (.tbl (ps++more)))
  (ns:∀m,s.heap.Ns X.env.locals m->h'.Ns X.env.locals m) (hok:HOk X.prog X.w H' h') (hg:AllBare g') :
  Inv X pins σ H' {s with heap:=h',gens:=g',drawn:=d',toks:=t'}:=by
 have neL:∀b o,X.gl.heap.get? b=some o->b≠X.env.locals:=fun b o e=>ne_of_lt (lt_of_lt_of_le (Heap.lt_size e) I.ok.above)
 have neC:∀b o,X.gl.heap.get? b=some o->b ∉ X.ex->b ∉ ch:=fun b o e hx hb=>by
  rcases (hch b hb).1 with z|z
  ·exact hx z
  ·exact absurd (lt_of_lt_of_le (Heap.lt_size e) z) (lt_irrefl _)
 have cellK:∀x c,X.env.cells.lookup x=some c->∀v,s.heap.IsCell c v->h'.IsCell c v:=fun x c e v ⟨o,ho,hd⟩=>by
  have nch:c ∉ ch:=fun z=>(hch c z).2.2.1 x c e rfl
  by_cases hc:c∈X.fs
  ·obtain⟨sl,q⟩:=slot c o (I.cne x c e) hc nch ho (I.jE x c e)
   exact⟨_,q,hd⟩
  ·exact⟨o,keep c o (I.cne x c e) hc nch ho (I.jE x c e),hd⟩
 refine⟨I.ok,I.os,hg,⟨fun b o e n hb hx=>?_,fun b o e n hb hx=>?_,fun b o e n hx=>?_,fun b o e hx=>?_,fun b xs e=>rR b xs (I.base.rR b xs e),fun b o xs e=>qv b o xs (I.base.qv b o xs e),fun b ps e=>?_⟩,?_,fun x c e=>?_,?_,fun x c e=>?_,fun p hp=>?_,hok,I.len⟩
 ·exact keep b o (neL b o e) hb (neC b o e hx) (I.base.keep b o e n hb hx) (I.base.free b o e n hx)
 ·obtain⟨sl,e1⟩:=I.base.slot b o e n hb hx
  obtain⟨sl',e2⟩:=slot b _ (neL b o e) hb (neC b o e hx) e1 (I.base.free b o e n hx)
  exact⟨sl',e2⟩
 ·obtain⟨o',e1⟩:=I.base.there b o e hx
  exact free b o' (neC b o e hx) e1 (I.base.free b o e n hx)
 ·obtain⟨o',e1⟩:=I.base.there b o e hx
  exact there b o' (neC b o e hx) e1
 ·obtain⟨m1,e1⟩:=I.base.qr b ps e
  obtain⟨m2,e2⟩:=qr b _ e1
  exact⟨m1++m2,by rw[e2,Array.append_assoc]⟩
 ·obtain⟨m,hn,hl⟩:=I.loc
  refine⟨m,ns m hn,fun i x v e1 e2 e3=>?_⟩
  obtain⟨u,r,l⟩:=hl i x v e1 e2 e3
  refine⟨u,r,?_⟩
  rcases l with l|⟨k,c,e,z⟩
  ·exact .inl l
  ·exact .inr ⟨k,c,e,cellK x c e _ z⟩
 ·obtain⟨v,z⟩:=I.cell x c e
  exact⟨v,cellK x c e v z⟩
 ·obtain⟨m,⟨o,_,_,ho,_⟩,_⟩:=I.loc
  exact free _ o (fun z=>(hch _ z).2.1 rfl) ho I.free
 ·obtain⟨v,o,ho,hd⟩:=I.cell x c e
  exact free c o (fun z=>(hch c z).2.2.1 x c e rfl) ho (I.jE x c e)
 ·obtain⟨e,n,ne,nf,d⟩:=I.pin p hp
  have nch:p.1 ∉ ch:=fun z=>(hch p.1 z).2.2.2 p hp rfl
  exact⟨keep p.1 p.2 ne nf nch e n,free p.1 p.2 nch e n,ne,nf,d⟩
theorem Inv.un{t':Nat}(I:Inv X pins σ H s)(u:Un X.fs [] H H' s.heap h')(hok:HOk X.prog X.w H' h'):Inv X pins σ H' {s with heap:=h',toks:=t'}:=by
 obtain⟨m,⟨o,es,ep,ho,r⟩,_⟩:=id I.loc
 obtain⟨sl,hL⟩:=u.any ho I.free (by simp)
 exact I.step (g':=s.gens) (d':=s.drawn) (ch:=[]) (fun _ z=>nomatch z) (fun b o _ hb _ e n=>u.keep b o e n hb (by simp)) (fun b o _ hb _ e n=>u.slot b o e n hb (by simp)) (fun b o _ e n=>u.free b o e n (by simp)) (fun b o _ e=>u.there b o e (by simp)) u.rR u.qv u.qr (fun m' hm=>by
  obtain⟨o',es',ep',ho',r'⟩:=hm
  rw[ho] at ho';cases ho'
  exact⟨_,es',ep',hL,r'⟩) hok I.bare
theorem Inv.call{g':Array GenState}{t':Nat}{d':Drawn}{ch:List Addr}(I:Inv X pins σ H s)(u:Un (frs X.stack) ch H H' s.heap h')(hok:HOk X.prog X.w H' h')(hg:AllBare g')
  (hch:∀b∈ch,(b∈X.ex\/X.gl.heap.objs.size<=b)/\b≠X.env.locals/\(∀x c,X.env.cells.lookup x=some c->c≠b)/\∀p∈X.pn++pins,p.1≠b) :
  Inv X pins σ H' {s with heap:=h',gens:=g',drawn:=d',toks:=t'}:=by
 obtain⟨m,⟨o,es,ep,ho,r⟩,_⟩:=id I.loc
 obtain⟨sl,hL⟩:=u.any ho I.free fun z=>(hch _ z).2.1 rfl
 exact I.step (ch:=ch) hch (fun b o hL hb hc e n=>u.keep b o e n (fun z=>(List.mem_cons.mp (I.Dh b z)).elim hL hb) hc) (fun b o _ _ hc e n=>u.any e n hc) (fun b o hc e n=>u.free b o e n hc) (fun b o hc e=>u.there b o e hc) u.rR u.qv u.qr (fun m' hm=>by
  obtain⟨o',es',ep',ho',r'⟩:=hm
  rw[ho] at ho';cases ho'
  exact⟨_,es',ep',hL,r'⟩) hok hg
theorem Inv.turned{t':Nat}{it:Addr}(I:Inv X pins σ H s)(k:∀b o,b≠it->s.heap.get? b=some o->h'.get? b=some o)(hn:H it=none)(hL:it≠X.env.locals)
  (h1:it∈X.ex\/X.gl.heap.objs.size<=it) (h2:∀x c,X.env.cells.lookup x=some c->c≠it) (h3:∀p∈X.pn++pins,p.1≠it):Inv X pins σ H {s with heap:=h',toks:=t'}:=by
 have nit:∀b u,H b=some u->b≠it:=fun b u e z=>by rw[z,hn] at e;cases e
 refine I.step (g':=s.gens) (d':=s.drawn) (ch:=[it]) (fun b hb=>?_) (fun b o _ _ hc e _=>k b o (fun z=>hc (by simp[z])) e) (fun b o _ _ hc e _=>⟨o.slots,k b o (fun z=>hc (by simp[z])) e⟩) (fun _ _ _ _ n=>n)
  (fun b o hc e=>⟨o,k b o (fun z=>hc (by simp[z])) e⟩) (fun _ _ e=>e) (fun _ _ _ e=>e) (fun b ps e=>⟨#[],by rw[e];simp⟩) (fun m hm=>?_) (fun b u e=>?_) I.bare
 ·have e:b=it:=by simpa using hb
  subst e
  exact⟨h1,hL,h2,h3⟩
 ·obtain⟨o,es,ep,ho,r⟩:=hm
  exact⟨o,es,ep,k _ o (Ne.symm hL) ho,r⟩
 ·refine (I.hok b u e).xa (fun c v hc q=>k c v ?_ q) (fun _ q=>q) fun _ _ q=>q
  rcases hc with z|z
  ·rw[z];exact nit b u e
  ·exact nit c _ z
theorem Inv.tok(I:Inv X pins σ H s)(t:Nat):Inv X pins σ H {s with toks:=t}:=I.un (h':=s.heap) (t':=t) Un.refl I.hok
theorem Inv.kept{t':Nat}(I:Inv X pins σ H s)(k:∀b u,s.heap.get? b=some u->h'.get? b=some u):Inv X pins σ H {s with heap:=h',toks:=t'}:=I.un (Un.kept k) (I.hok.kept k)
theorem Inv.laid{a:Addr}{o:HO}{t':Nat}(I:Inv X pins σ H s)(k:∀b u,s.heap.get? b=some u->h'.get? b=some u)(hp:s.heap.objs.size<=a)(new:iM X.prog X.w (upd H a o) h' a o) :
  Inv X pins σ (upd H a o) {s with heap:=h',toks:=t'}:=I.un (Un.laid k hp (I.hok.fresh hp)) (I.hok.laid k hp new)
theorem Inv.write{x e:Addr}{o:HO}{t':Nat}(I:Inv X pins σ H s)(mu:Mut (H x))(he:e=x\/H e=some (.own x))(k:∀b u,b≠e->s.heap.get? b=some u->h'.get? b=some u)(heo:∃u,h'.get? e=some u)
  (new:iM X.prog X.w (upd H x o) h' x o):Inv X pins σ (upd H x o) {s with heap:=h',toks:=t'}:=I.un (Un.write mu he k heo) (I.hok.write mu he k heo new)
theorem Inv.JF{pins':List (Addr×Obj)}(I:Inv X pins σ H s)(h:∀p∈pins',s.heap.get? p.1=some p.2/\H p.1=none/\p.1≠X.env.locals/\p.1 ∉ X.fs/\∀v,p.2.data≠.cell v):Inv X pins' σ H s:=
 ⟨I.ok,I.os,I.bare,I.base,I.loc,I.cell,I.free,I.jE,fun p hp=>(List.mem_append.mp hp).elim (fun z=>I.pin p (mem_append_left _ z)) (h p),I.hok,I.len⟩
theorem EO{N:List Str}(hN:N.Nodup){i j:Nat}{x:Str}(a:N[i]? = some x)(b:N[j]? = some x):i=j:=by
 obtain⟨h1,e1⟩:=List.getElem?_eq_some_iff.mp a
 obtain⟨h2,e2⟩:=List.getElem?_eq_some_iff.mp b
 exact (List.getElem_inj hN).mp (e1.trans e2.symm)
theorem Km{M:Model}{A:Around}{E:Value->Shared->Prop}{i:Nat}{x:Str}{v:V}{u:Value}{Q:Unit->Shared->Prop}(I:Inv X pins σ H s)(hN:X.N.Nodup)(hi:X.N[i]? = some x)(hx:Loc X.env.scope x)(r:RelV v u)
  (h:∀s',Inv X pins (σ.set i (some v)) H s'->(∃a,Heap.SameBut a s.heap s'.heap/\(a=X.env.locals\/X.env.cells.lookup x=some a))->Q () s') (hf:X.fn x=true\/X.env.scope.names.lookup x=some .local:=by first|exact .inl rfl|exact .inr rfl|assumption):wpAny M A (storeName X.env x u) Q E s:=by
 obtain⟨m,hn,hl⟩:=id I.loc
 have hcls:(X.env.scope.kind==.class || (X.env.scope.kind==.module&&X.env.locals != X.env.globals))=false:=by rw[I.ok.kind];rfl
 have wE:i<σ.length:=by rw[I.len];exact (List.getElem?_eq_some_iff.mp hi).1
 have cne:=I.cne
 have tracked:∀{a:Addr} {h':Heap},(∃o,s.heap.get? a=some o/\H a=none)->Heap.SameBut a s.heap h'->HOk X.prog X.w H h':=fun {a h'} ha hs b ob e=>by
  obtain⟨_,_,hfree⟩:=ha
  refine (I.hok b ob e).xa (fun c w' hc q=>(hs.2 c ?_).trans q) (fun _ q=>q) fun _ _ q=>q
  rintro rfl
  rcases hc with rfl|hc
  ·rw[hfree] at e;cases e
  ·rw[hfree] at hc;cases hc
 rcases hx with hk|hk
 ·refine wpAny_storeName_local hk hn (fun h' hn' hs=>?_) hcls
  obtain⟨oL,_,_,hoL,_⟩:=id hn
  refine h _ ⟨I.ok,I.os,I.bare,⟨fun b o e n hb hx=>?_,fun b o e n hb hx=>?_,I.base.free,fun b o e hx=>?_,I.base.rR,I.base.qv,I.base.qr⟩,⟨_,hn',fun j y v' e1 e2 e3=>?_⟩,fun y c e=>?_,I.free,I.jE,fun p hp=>?_,tracked ⟨oL,hoL,I.free⟩ hs,by simpa using I.len⟩ ⟨_,hs,.inl rfl⟩
  ·exact (hs.2 b (ne_of_lt (lt_of_lt_of_le (Heap.lt_size e) I.ok.above))).trans (I.base.keep b o e n hb hx)
  ·obtain⟨sl,e1⟩:=I.base.slot b o e n hb hx
   exact⟨sl,(hs.2 b (ne_of_lt (lt_of_lt_of_le (Heap.lt_size e) I.ok.above))).trans e1⟩
  ·obtain⟨o',e1⟩:=I.base.there b o e hx
   exact⟨o',(hs.2 b (ne_of_lt (lt_of_lt_of_le (Heap.lt_size e) I.ok.above))).trans e1⟩
  ·by_cases hj:j=i
   ·subst hj
    rw[hi] at e1;cases e1
    rw[List.getElem?_set_self wE] at e2
    cases e2
    exact⟨u,r,.inl ⟨hk,by simp⟩⟩
   ·rw[List.getElem?_set_ne (Ne.symm hj)] at e2
    obtain⟨u',r',q⟩:=hl j y v' e1 e2 e3
    refine⟨u',r',?_⟩
    rcases q with ⟨k,e⟩|⟨k,c,e,z⟩
    ·refine .inl ⟨k,?_⟩
     have:y≠x:=fun e=>hj (EO hN e1 (e▸hi))
     simp[this,e]
    ·exact .inr ⟨k,c,e,z.sameBut hs (cne y c e)⟩
  ·obtain⟨w',z⟩:=I.cell y c e
   exact⟨w',z.sameBut hs (cne y c e)⟩
  ·obtain⟨e,n,ne,nf,d⟩:=I.pin p hp
   exact⟨(hs.2 p.1 ne).trans e,n,ne,nf,d⟩
 ·have hfn:X.fn x=true:=by
   rcases hf with z|z
   ·exact z
   ·rw[z] at hk;cases hk
  obtain⟨c,hc⟩:=I.ok.has x (.inl hk)
  obtain⟨w',z⟩:=I.cell x c hc
  refine wpAny_storeName_cell I.ok.kind hk hc z (fun h' hc' hs=>?_)
  obtain⟨oc,hoc,hocd⟩:=id z
  refine h {s with heap:=h'} ⟨I.ok,I.os,I.bare,⟨fun b o e n hb hx=>?_,fun b o e n hb hx=>?_,I.base.free,fun b o e hx=>?_,I.base.rR,I.base.qv,I.base.qr⟩,⟨m,hn.sameBut hs (Ne.symm (cne x c hc)),fun j y v' e1 e2 e3=>?_⟩,fun y c' e=>?_,I.free,I.jE,fun p hp=>?_,tracked ⟨oc,hoc,I.jE x c hc⟩ hs,by simpa using I.len⟩ ⟨c,hs,.inr hc⟩
  ·exact (hs.2 b (ne_of_lt (lt_of_lt_of_le (Heap.lt_size e) (I.ok.cab x c hfn hc)))).trans (I.base.keep b o e n hb hx)
  ·obtain⟨sl,e1⟩:=I.base.slot b o e n hb hx
   exact⟨sl,(hs.2 b (ne_of_lt (lt_of_lt_of_le (Heap.lt_size e) (I.ok.cab x c hfn hc)))).trans e1⟩
  ·obtain⟨o',e1⟩:=I.base.there b o e hx
   exact⟨o',(hs.2 b (ne_of_lt (lt_of_lt_of_le (Heap.lt_size e) (I.ok.cab x c hfn hc)))).trans e1⟩
  ·by_cases hj:j=i
   ·subst hj
    rw[hi] at e1;cases e1
    rw[List.getElem?_set_self wE] at e2
    cases e2
    exact⟨u,r,.inr ⟨.inl hk,c,hc,hc'⟩⟩
   ·rw[List.getElem?_set_ne (Ne.symm hj)] at e2
    obtain⟨u',r',q⟩:=hl j y v' e1 e2 e3
    refine⟨u',r',?_⟩
    rcases q with q|⟨k,c',e,z'⟩
    ·exact .inl q
    ·refine .inr ⟨k,c',e,z'.sameBut hs ?_⟩
     rintro rfl
     exact hj (EO hN e1 (I.ok.inj _ _ _ e hc▸hi))
  ·by_cases hcc:c'=c
   ·subst hcc;exact⟨_,hc'⟩
   ·obtain⟨w2,z2⟩:=I.cell y c' e
    exact⟨w2,z2.sameBut hs hcc⟩
  ·obtain⟨e,n,ne,nf,d⟩:=I.pin p hp
   refine⟨(hs.2 p.1 ?_).trans e,n,ne,nf,d⟩
   intro q
   rw[q,hoc] at e
   have q':oc=p.2:=Option.some.inj e
   exact d w' (by rw[<- q'];exact hocd)
theorem lW{M:Model}{A:Around}{E:Value->Shared->Prop}{i:Nat}{x:Str}{v:V}{u:Value}{Q:Unit->Shared->Prop}(I:Inv X pins σ H s)(hN:X.N.Nodup)(hi:X.N[i]? = some x)(hx:Loc X.env.scope x)(r:RelV v u)
  (h:∀s',Inv X pins (σ.set i (some v)) H s'->Q () s') (hf:X.fn x=true\/X.env.scope.names.lookup x=some .local:=by first|exact .inl rfl|exact .inr rfl|assumption):wpAny M A (storeName X.env x u) Q E s:=
 Km I hN hi hx r (fun s' I' _=>h s' I') hf
theorem Inv.II{s':Shared}{ch:List Addr}(I:Inv X pins σ H s)(ho:s'.os=s.os)(u:Un (frs X.stack) ch H H' s.heap s'.heap)(hok:HOk X.prog X.w H' s'.heap)(hg:AllBare s'.gens)
  (hch:∀b∈ch,(b∈X.ex\/X.gl.heap.objs.size<=b)/\b≠X.env.locals/\(∀x c,X.env.cells.lookup x=some c->c≠b)/\∀p∈X.pn++pins,p.1≠b):Inv X pins σ H' s':=by
 obtain⟨h',g',d',t',o'⟩:=s'
 have e:o'=s.os:=ho
 subst e
 exact I.call (g':=g') (t':=t') (d':=d') u hok hg hch
end
noncomputable abbrev XK:=Value->Option Addr->Hp->Prop
noncomputable abbrev St:=List (Option V)
noncomputable abbrev VK:=V->Hp->Prop
noncomputable abbrev TE:=St->Hp->VK->Prop
noncomputable abbrev TT:=St->Hp->(Bool->Hp->Prop)->Prop
noncomputable abbrev TA:=St->Hp->(List V->Hp->Prop)->Prop
structure Ends where
 nx:St->Hp->Prop
 rt:VK
 bk:St->Hp->Prop:=fun _ _=>False
 ct:St->Hp->Prop:=fun _ _=>False
noncomputable abbrev TS:=Ends->St->Hp->Prop
noncomputable def EP(X:Cx)(pins:List (Addr×Obj))(σ:St)(Q:VK)(u:Value)(s':Shared):Prop:=∃v H',Inv X pins σ H' s'/\RelV v u/\Q v H'
noncomputable def TP(X:Cx)(pins:List (Addr×Obj))(σ:St)(Q:Bool->Hp->Prop)(b:Bool)(s':Shared):Prop:=∃H',Inv X pins σ H' s'/\Q b H'
noncomputable def AP(X:Cx)(pins:List (Addr×Obj))(σ:St)(Q:List V->Hp->Prop)(us:List Value)(s':Shared):Prop:=∃vs H',Inv X pins σ H' s'/\Vals vs us/\Q vs H'
noncomputable def SP(X:Cx)(pins:List (Addr×Obj))(D:Ends)(f:Flow)(s':Shared):Prop:=
 match f with
 |.next=>∃bn H',Inv X pins bn H' s'/\D.nx bn H'
 |.brk=>∃bn H',Inv X pins bn H' s'/\D.bk bn H'
 |.cont=>∃bn H',Inv X pins bn H' s'/\D.ct bn H'
 |.ret u=>∃v bn H',Inv X pins bn H' s'/\RelV v u/\D.rt v H'
noncomputable def PE(X:Cx)(e:Expr)(t:TE):Prop:=
 ∀(pins:List (Addr×Obj)) (s:Shared) (σ:St) (H:Hp) (Q:VK),Inv X pins σ H s->t σ H Q->wpAny (model X.prog X.w) X.A (eval e X.env) (EP X pins σ Q) X.xe s
noncomputable def PT(X:Cx)(e:Expr)(t:TT):Prop:=
 ∀(pins:List (Addr×Obj)) (s:Shared) (σ:St) (H:Hp) (Q:Bool->Hp->Prop),Inv X pins σ H s->t σ H Q->wpAny (model X.prog X.w) X.A (isTrue e X.env (eval e X.env)) (TP X pins σ Q) X.xe s
noncomputable def PW(X:Cx)(e:Expr)(t:TT):Prop:=
 ∀(whole:Sem Value) (pins:List (Addr×Obj)) (s:Shared) (σ:St) (H:Hp) (Q:Bool->Hp->Prop),Inv X pins σ H s->t σ H Q->wpAny (model X.prog X.w) X.A (isTrue e X.env whole) (TP X pins σ Q) X.xe s
theorem PW.pt{X:Cx}{e:Expr}{t:TT}(h:PW X e t):PT X e t:=h _
noncomputable def PA(X:Cx)(es:List Expr)(t:TA):Prop:=
 ∀(pos:Pos) (pins:List (Addr×Obj)) (s:Shared) (σ:St) (H:Hp) (Q:List V->Hp->Prop),Inv X pins σ H s->t σ H Q->wpAny (model X.prog X.w) X.A (spliced (backTo pos (starEach es X.env))) (AP X pins σ Q) X.xe s
noncomputable def PS(X:Cx)(st:Stmt)(t:TS):Prop:=
 ∀(pins:List (Addr×Obj)) (s:Shared) (σ:St) (H:Hp) (D:Ends),Inv X pins σ H s->t D σ H->wpAny (model X.prog X.w) X.A (exec st X.env) (SP X pins D) X.xe s
noncomputable def PSs(X:Cx)(st:List Stmt)(t:TS):Prop:=
 ∀(pins:List (Addr×Obj)) (s:Shared) (σ:St) (H:Hp) (D:Ends),Inv X pins σ H s->t D σ H->wpAny (model X.prog X.w) X.A (execs st X.env) (SP X pins D) X.xe s
theorem thn{α:Type}{t:Sem α}{Q Q':α->Shared->Prop}{M:Model}{A:Around}{E:Value->Shared->Prop}{s:Shared}(h:wpAny M A t Q E s)(hQ:∀a s,Q a s->Q' a s):wpAny M A t Q' E s:=wpAny_mono h hQ fun _ _ x=>x
end L2
namespace L2
open PySem PySem.Spec PyProof.Rows
section
variable {X:Cx}
theorem bin{a b:Expr}{ta tb:TE}(ha:PE X a ta)(hb:PE X b tb){pins:List (Addr×Obj)}{s:Shared}{σ:St}{H:Hp}{R:V->V->Hp->Prop}(I:Inv X pins σ H s)(h:ta σ H fun x H1=>tb σ H1 fun y H2=>R x y H2)
  {α:Type} {Q:α->Shared->Prop} {f:Value->Value->Sem α}
  (hf:∀v u s2 x y H2,Inv X pins σ H2 s2->RelV x v->RelV y u->R x y H2->wpAny (model X.prog X.w) X.A (f v u) Q X.xe s2) :
  wpAny (model X.prog X.w) X.A (eval a X.env) (fun v dl=>wpAny (model X.prog X.w) X.A (eval b X.env) (fun u jp=>wpAny (model X.prog X.w) X.A (f v u) Q X.xe jp) X.xe dl) X.xe s:=by
 refine thn (ha pins s σ H _ I h) fun v s1 hq0=>?_
 obtain⟨x,H1,I1,r1,q1⟩:=hq0
 refine thn (hb pins s1 σ H1 _ I1 q1) fun u s2 hq0=>?_
 obtain⟨y,H2,I2,r2,q2⟩:=hq0
 exact hf v u s2 x y H2 I2 r1 r2 q2
noncomputable def S0(i:Nat):TE:=fun σ H Q=>∃v,σ[i]? = some (some v)/\Q v H
noncomputable def tC(v:V):TE:=fun _ H Q=>Q v H
theorem NR{i:Nat}{x:Str}{pos:Pos}(hN:X.N[i]? = some x)(hv:Vis X.env.scope x)(hd:(x==("__debug__":Str))=false:=by decide)(hcd:(x==("__classdict__":Str))=false:=by decide):PE X (.Name x pos) (S0 i):=by
 intro pins s σ H Q I h
 obtain⟨v,e,h⟩:=h
 obtain⟨m,hn,hl⟩:=I.loc
 obtain⟨u,r,l⟩:=hl i x v hN e hv
 have fin:EP X pins σ Q u s:=⟨v,H,I,r,h⟩
 rcases l with ⟨hk,hm⟩|⟨hk,c,hc,hcell⟩
 ·exact wpAny_Name (wpAny_loadName_local I.ok.kind hk hn hm fin) hd
 ·rcases hk with hk|hk
  ·exact wpAny_Name (wpAny_loadName_cell I.ok.kind hk hc hcell fin) hd
  ·exact wpAny_Name (wpAny_loadName_free I.ok.kind hk hc hcell fin hcd) hd
theorem Rf{i j pos}:PE X (.Constant (.int i) j pos) (tC (.int i)):=fun _ _ _ H _ I h=>wpAny_Constant_int ⟨.int i,H,I.tok _,⟨_,rfl⟩,h⟩
theorem TZ{b j pos}:PE X (.Constant (.bool b) j pos) (tC (.bl b)):=fun _ _ _ H _ I h=>Constant_bool ⟨.bl b,H,I,rfl,h⟩
theorem Nr{x j pos}:PE X (.Constant (.str x) j pos) (tC (.str x)):=fun _ _ _ H _ I h=>Calls.Constant_str ⟨.str x,H,I.tok _,⟨_,rfl⟩,h⟩
noncomputable def Gl(X:Cx)(x:Str):Prop:=X.env.kindOf x=some .globalImplicit
theorem tI{E:Value->Shared->Prop}{pins:List (Addr×Obj)}{s:Shared}{σ:St}{H:Hp}{x:Str}{u:Value}{pos:Pos}{Q:Value->Shared->Prop}(I:Inv X pins σ H s)(hg:Gl X x)(hm:X.mg x=some u)(h:Q u s)
  (hd:(x==("__debug__":Str))=false:=by decide):wpAny (model X.prog X.w) X.A (eval (.Name x pos) X.env) Q E s:=
 Calls.Name_function_global I.ok.kind hg (Calls.loadGlobal_global (by rw[I.ok.glob];exact I.mod.glob.keeps I.bk) hm h) hd
theorem rZ{E:Value->Shared->Prop}{pins:List (Addr×Obj)}{s:Shared}{σ:St}{H:Hp}{x:Str}{u:Value}{pos:Pos}{Q:Value->Shared->Prop}(I:Inv X pins σ H s)(hg:Gl X x)(hm:X.mg x=none)(hv:bootBuiltins x=some u)(h:Q u s)
  (hn:x ≠ "__name__":=by decide) (hd:(x==("__debug__":Str))=false:=by decide):wpAny (model X.prog X.w) X.A (eval (.Name x pos) X.env) Q E s:=by
 obtain⟨mb,h1,h2⟩:=I.mod.blt
 exact Calls.Name_function_global I.ok.kind hg (Calls.loadGlobal_builtin (by rw[I.ok.glob];exact I.mod.glob.keeps I.bk) hm (by rw[I.ok.blt];exact h1.keeps I.bk) ((h2 x hn).trans hv) h) hd
theorem Jk{x:Str}{v:V}{u:Value}{pos:Pos}(hg:Gl X x)(hm:X.mg x=some u)(r:RelV v u)(hd:(x==("__debug__":Str))=false:=by decide):PE X (.Name x pos) (tC v):=
 fun _ _ _ H _ I h=>tI I hg hm ⟨v,H,I,r,h⟩ hd
theorem Jl{x:Str}{v:V}{u:Value}{pos:Pos}(hg:Gl X x)(hm:X.mg x=none)(hv:bootBuiltins x=some u)(r:RelV v u)(hn:x ≠ "__name__":=by decide)(hd:(x==("__debug__":Str))=false:=by decide):PE X (.Name x pos) (tC v):=
 fun _ _ _ H _ I h=>rZ I hg hm hv ⟨v,H,I,r,h⟩ hn hd
variable {a b:Expr}{ta tb:TE}{pos:Pos}
noncomputable def PC(X:Cx)(op:CmpOp)(a b:Expr)(t:TE):Prop:=
 ∀(pins:List (Addr×Obj)) (s:Shared) (σ:St) (H:Hp) (Q:VK),Inv X pins σ H s->t σ H Q ->
  wpAny (model X.prog X.w) X.A (eval a X.env) (fun v dl=>wpAny (model X.prog X.w) X.A (eval b X.env) (fun u jp=>wpAny (model X.prog X.w) X.A (compareOp op v u) (EP X pins σ Q) X.xe jp) X.xe dl) X.xe s
theorem NI(b:Expr){op:CmpOp}(h:op≠.In)(h2:op≠.NotIn):behindInMarks op b=false:=by
 have e1:(op==CmpOp.In)=false:=by cases op<;>first|rfl|exact absurd rfl h
 have e2:(op==CmpOp.NotIn)=false:=by cases op<;>first|rfl|exact absurd rfl h2
 cases b<;>simp[behindInMarks,e1,e2]
noncomputable def tB(t:TE):TT:=fun σ H Q=>t σ H fun x H1=>∃c,x = .bl c/\Q c H1
theorem U6{op:CmpOp}{t:TE}(h:PC X op a b t)(h1:behindInMarks op b=false:=by first|exact NI _ ⋯ ⋯|rfl):PT X (.Compare a [op] [b] pos) (tB t):=by
 intro pins s σ H Q I hw
 refine wpAny_isTrue_Compare1 (thn (h pins s σ H _ I hw) fun v s1 h1=>thn h1 fun u s2 h2=>thn h2 fun c s3 hq0=>?_) h1
 obtain⟨x,H1,I1,r1,q1⟩:=hq0
 obtain⟨d,rfl,q⟩:=q1
 cases r1
 exact wpAny_truthy_bool ⟨H1,I1,q⟩
theorem RP{e:Expr}{t:TE}(h:PE X e t)(he:∀whole,isTrue e X.env whole=(do let v <- whole;standAt e.pos;holding [v] (truthy v)):=by intro _;rfl):PT X e (tB t):=by
 intro pins s σ H Q I hw
 refine isTrue_plain (thn (h pins s σ H _ I hw) fun v s1 hq0=>?_) (he _)
 obtain⟨x,H1,I1,r1,q1⟩:=hq0
 obtain⟨d,rfl,q⟩:=q1
 cases r1
 exact wpAny_truthy_bool ⟨H1,I1,q⟩
variable {tA tB':TT}{rest:List Expr}
noncomputable def U7(t u:TT):TT:=fun σ H Q=>t σ H fun c H1=>if c=true then u σ H1 Q else Q false H1
noncomputable def tOr(t u:TT):TT:=fun σ H Q=>t σ H fun c H1=>if c=true then Q true H1 else u σ H1 Q
noncomputable def UK(t:TT):TT:=fun σ H Q=>t σ H fun c H1=>Q (!c) H1
theorem pw_and1(ha:PT X a tA):PW X (.BoolOp .And [a] pos) tA:=by
 intro wh pins s σ H Q I h
 refine isTrue_and (thn (ha pins s σ H Q I h) fun c s1 e=>?_)
 cases c with
 |true=>exact isTrue_and_nil e
 |false=>exact e
theorem pw_or1(ha:PT X a tA):PW X (.BoolOp .Or [a] pos) tA:=by
 intro wh pins s σ H Q I h
 refine isTrue_or (thn (ha pins s σ H Q I h) fun c s1 e=>?_)
 cases c with
 |false=>exact isTrue_or_nil e
 |true=>exact e
theorem pw_and(ha:PT X a tA)(hb:PW X (.BoolOp .And (b::rest) pos) tB'):PW X (.BoolOp .And (a::b::rest) pos) (U7 tA tB'):=by
 intro wh pins s σ H Q I h
 refine isTrue_and (thn (ha pins s σ H _ I h) fun c s1 hq0=>?_)
 obtain⟨H1,I1,q1⟩:=hq0
 cases c with
 |true=>exact hb wh pins s1 σ H1 Q I1 q1
 |false=>exact⟨H1,I1,q1⟩
theorem pw_or(ha:PT X a tA)(hb:PW X (.BoolOp .Or (b::rest) pos) tB'):PW X (.BoolOp .Or (a::b::rest) pos) (tOr tA tB'):=by
 intro wh pins s σ H Q I h
 refine isTrue_or (thn (ha pins s σ H _ I h) fun c s1 hq0=>?_)
 obtain⟨H1,I1,q1⟩:=hq0
 cases c with
 |true=>exact⟨H1,I1,q1⟩
 |false=>exact hb wh pins s1 σ H1 Q I1 q1
theorem QX(ha:PT X a tA):PT X (.UnaryOp .Not a pos) (UK tA):=by
 intro pins s σ H Q I h
 exact isTrue_not (ha pins s σ H (fun c H1=>Q (!c) H1) I h)
noncomputable def Uo(ta tb:TE):TE:=fun σ H Q=>ta σ H fun x H1=>∃c,x = .bl c/\if c=true then tb σ H1 Q else Q (.bl false) H1
noncomputable def Ue(ta:TE):TE:=fun σ H Q=>ta σ H fun x H1=>∃c,x = .bl c/\Q (.bl (!c)) H1
theorem Ri{op}{t:TE}(h:PE X a t):PE X (.BoolOp op [a] pos) t:=fun pins s σ H Q I hw=>BoolOp_one (h pins s σ H Q I hw)
theorem Sw(ha:PE X a ta)(hb:PE X (.BoolOp .And (b::rest) pos) tb):PE X (.BoolOp .And (a::b::rest) pos) (Uo ta tb):=by
 intro pins s σ H Q I h
 refine BoolOp_and (thn (ha pins s σ H _ I h) fun v s1 hq0=>?_)
 obtain⟨x,H1,I1,r1,q1⟩:=hq0
 obtain⟨c,rfl,q1⟩:=q1
 cases r1
 refine wpAny_truthy_bool ?_
 cases c with
 |true=>exact hb pins s1 σ H1 Q I1 q1
 |false=>exact⟨.bl false,H1,I1,rfl,q1⟩
theorem Q5(ha:PE X a ta):PE X (.UnaryOp .Not a pos) (Ue ta):=by
 intro pins s σ H Q I h
 refine UnaryOp_ (thn (ha pins s σ H _ I h) fun v s1 hq0=>?_)
 obtain⟨x,H1,I1,r1,q1⟩:=hq0
 obtain⟨c,rfl,q1⟩:=q1
 cases r1
 exact not_of (wpAny_truthy_bool ⟨.bl (!c),H1,I1,rfl,q1⟩)
noncomputable def tIf(t:TT)(ta tb:TE):TE:=fun σ H Q=>t σ H fun c H1=>if c=true then ta σ H1 Q else tb σ H1 Q
theorem LP{c:Expr}(hc:PT X c tA)(ha:PE X a ta)(hb:PE X b tb):PE X (.IfExp c a b pos) (tIf tA ta tb):=by
 intro pins s σ H Q I h
 refine wpAny_IfExp (thn (hc pins s σ H _ I h) fun d s1 hq0=>?_)
 obtain⟨H1,I1,q1⟩:=hq0
 cases d with
 |true=>exact ha pins s1 σ H1 Q I1 q1
 |false=>exact hb pins s1 σ H1 Q I1 q1
end
end L2
namespace L2
open PySem PySem.Spec PyProof.Rows
noncomputable def SqL(K:PySem.W.Frag)(H:Hp)(a:Addr)(xs:List V):Prop:=
 Rd H a (.lst xs) \/
  ∃(o:Obj) (its:Array Value) (n:Nat),K.lookup a=some o/\o.cls = .type "list"/\o.dict=none/\o.data = .seq its n/\its.size<=sizeLine/\Vals xs its.toList
noncomputable def SqT(K:PySem.W.Frag)(H:Hp)(a:Addr)(xs:List V):Prop:=
 Rd H a (.tup xs) \/
  ∃(o:Obj) (its:Array Value) (n:Nat),K.lookup a=some o/\o.cls = .type "tuple"/\o.data = .seq its n/\its.size<=sizeLine/\Vals xs its.toList
noncomputable def U0:Value->Option V
 |.none=>some .non
 |.bool b=>some (.bl b)
 |.int i _=>some (.int i)
 |.str x _=>some (.str x)
 |.bytes b _=>some (.byt b)
 |.float b _=>some (.flt b)
 |.ref a=>some (.ref a)
 |.type n=>some (.ty n)
 |_=>none
theorem RelV.abs{x:V}{u:Value}(r:RelV x u):U0 u=some x:=by
 cases x with
 |non=>cases r;rfl
 |bl _=>cases r;rfl
 |int _=>obtain⟨t,rfl⟩:=r;rfl
 |str _=>obtain⟨t,rfl⟩:=r;rfl
 |byt _=>obtain⟨t,rfl⟩:=r;rfl
 |flt _=>obtain⟨t,rfl⟩:=r;rfl
 |ref _=>cases r;rfl
 |ty _=>cases r;rfl
theorem RelV.inj{x y:V}{u:Value}(r:RelV x u)(q:RelV y u):x=y:=Option.some.inj (r.abs.symm.trans q.abs)
theorem Vals.inj:∀{xs ys:List V} {us:List Value},Vals xs us->Vals ys us->xs=ys
 |_,_,_,.nil,.nil=>rfl
 |_,_,_,.cons r t,.cons r' t'=>by rw[r.inj r',Vals.inj t t']
section
variable {X:Cx}{pins:List (Addr×Obj)}{σ:St}{H:Hp}{s:Shared}{a:Addr}{xs ys:List V}
theorem SqL.of{K:PySem.W.Frag}(h:H a=some (.lst xs)):SqL K H a xs:=.inl (.inl h)
theorem SqT.of{K:PySem.W.Frag}(h:H a=some (.tup xs)):SqT K H a xs:=.inl (.inl h)
theorem Inv.list(I:Inv X pins σ H s)(h:SqL X.K H a xs):∃its:List Value,Vals xs its/\PlainL s.heap a its.toArray/\xs.length<=sizeLine:=by
 rcases h with h|⟨o,its,n,hk,hc,hd,hs,hz,r⟩
 ·obtain⟨z,its,n,r,e⟩:=h.ok I.hok
  exact⟨its,r,⟨_,n,e,rfl,rfl,rfl⟩,z⟩
 ·refine⟨its.toList,r,⟨o,n,I.kIn a o hk,hc,hd,by simpa using hs⟩,?_⟩
  have e:=r.length
  simp only[Array.length_toList] at e
  omega
theorem Inv.tuple(I:Inv X pins σ H s)(h:SqT X.K H a xs):∃its:List Value,Vals xs its/\IsTup s.heap a its.toArray/\xs.length<=sizeLine:=by
 rcases h with h|⟨o,its,n,hk,hc,hs,hz,r⟩
 ·obtain⟨z,its,r,p⟩:=h.ok I.hok
  exact⟨its,r,p,z⟩
 ·refine⟨its.toList,r,⟨o,I.kIn a o hk,hc,n,by simpa using hs⟩,?_⟩
  have e:=r.length
  simp only[Array.length_toList] at e
  omega
theorem Inv.Fy(I:Inv X pins σ H s)(h:SqL X.K H a xs)(h':SqL X.K H a ys):xs=ys:=by
 obtain⟨its,r,⟨o,n,e,_,_,d⟩,_⟩:=I.list h
 obtain⟨its',r',⟨o',n',e',_,_,d'⟩,_⟩:=I.list h'
 rw[e] at e';cases e'
 rw[d] at d'
 injection d' with d1 _
 have:its=its':=by simpa using congrArg Array.toList d1
 subst this
 exact r.inj r'
theorem Inv.JX(I:Inv X pins σ H s)(h:SqT X.K H a xs)(h':SqT X.K H a ys):xs=ys:=by
 obtain⟨its,r,⟨o,e,_,n,d⟩,_⟩:=I.tuple h
 obtain⟨its',r',⟨o',e',_,n',d'⟩,_⟩:=I.tuple h'
 rw[e] at e';cases e'
 rw[d] at d'
 injection d' with d1 _
 have:its=its':=by simpa using congrArg Array.toList d1
 subst this
 exact r.inj r'
end
noncomputable abbrev Cx.xY(X:Cx)(E:Value->Shared->Prop):Cx:={X with xe:=E}
noncomputable abbrev Cx.nox(X:Cx):Cx:=X.xY fun _ _=>False
theorem Cx.Ok.xY{X:Cx}(ok:X.Ok)(E:Value->Shared->Prop):(X.xY E).Ok:=
 ⟨ok.mod,ok.kind,ok.glob,ok.blt,ok.above,ok.inj,ok.has,ok.cab,ok.hd,ok.qt,ok.frames,ok.stk,ok.exf,ok.bs,ok.bsz,ok.KP,ok.NV,ok.se,ok.frf⟩
theorem Cx.Ok.nu{X:Cx}{E:Value->Shared->Prop}(ok:(X.xY E).Ok):X.Ok:=
 ⟨ok.mod,ok.kind,ok.glob,ok.blt,ok.above,ok.inj,ok.has,ok.cab,ok.hd,ok.qt,ok.frames,ok.stk,ok.exf,ok.bs,ok.bsz,ok.KP,ok.NV,ok.se,ok.frf⟩
section
variable {X:Cx}{pins:List (Addr×Obj)}{σ:St}{H:Hp}{s:Shared}{E:Value->Shared->Prop}
theorem Inv.xY(I:Inv X pins σ H s)(E:Value->Shared->Prop):Inv (X.xY E) pins σ H s:=⟨I.ok.xY E,I.os,I.bare,I.base,I.loc,I.cell,I.free,I.jE,I.pin,I.hok,I.len⟩
theorem Inv.nu(I:Inv (X.xY E) pins σ H s):Inv X pins σ H s:=⟨I.ok.nu,I.os,I.bare,I.base,I.loc,I.cell,I.free,I.jE,I.pin,I.hok,I.len⟩
theorem SP.nu{D:Ends}{f:Flow}{s':Shared}(h:SP (X.xY E) pins D f s'):SP X pins D f s':=by
 cases f with
 |next=>obtain⟨bn,H',I,q⟩:=h;exact⟨bn,H',I.nu,q⟩
 |brk=>obtain⟨bn,H',I,q⟩:=h;exact⟨bn,H',I.nu,q⟩
 |cont=>obtain⟨bn,H',I,q⟩:=h;exact⟨bn,H',I.nu,q⟩
 |ret u=>obtain⟨v,bn,H',I,r,q⟩:=h;exact⟨v,bn,H',I.nu,r,q⟩
theorem PSs.nox{st:List Stmt}{t:TS}(h:PSs X.nox st t):PSs X st t:=fun pins s σ H D I hw=>
 wpAny_mono (h pins s σ H D (I.xY _) hw) (fun _ _ q=>q.nu) fun _ _ z=>False.elim z
end
section
variable {X:Cx}{st:Stmt}{rest:List Stmt}{t u:TS}{e:Expr}{te:TE}{pos:Pos}
noncomputable def Ur:TS:=fun D σ H=>D.nx σ H
noncomputable def T5(t u:TS):TS:=fun D σ H=>t {D with nx:=u D} σ H
theorem Oa:PSs X [] Ur:=fun _ _ σ H _ I h=>wpAny_execs_nil ⟨σ,H,I,h⟩
theorem yN(h1:PS X st t)(h2:PSs X rest u):PSs X (st::rest) (T5 t u):=by
 intro pins s σ H D I h
 refine wpAny_execs_cons (thn (h1 pins s σ H {D with nx:=u D} I h) fun f s1 q=>?_)
 cases f with
 |next=>
  obtain⟨bn,H',I',q⟩:=q
  exact h2 pins s1 bn H' D I' q
 |ret v=>exact q
 |brk=>exact q
 |cont=>exact q
theorem PR(h1:PS X st t):PSs X [st] t:=by
 intro pins s σ H D I h
 refine wpAny_execs_cons (thn (h1 pins s σ H D I h) fun f s1 q=>?_)
 cases f with
 |next=>exact wpAny_execs_nil q
 |ret v=>exact q
 |brk=>exact q
 |cont=>exact q
theorem Inv.quiet{pins:List (Addr×Obj)}{σ:St}{H:Hp}{s:Shared}(I:Inv X pins σ H s):interactive X.env=false:=by simp[interactive,I.ok.kind]
noncomputable def Uy(te:TE):TS:=fun D σ H=>te σ H fun _ H1=>D.nx σ H1
theorem Oe(he:PE X e te)(hs:swapsWith e none pos.line X.env=pure false:=by rfl):PS X (.Expr e pos) (Uy te):=by
 intro pins s σ H D I h
 exact wpAny_Expr_any (thn (he pins s σ H _ I h) fun v s1 ⟨x,H1,I1,r1,q1⟩=>⟨σ,H1,I1,q1⟩) I.quiet hs
noncomputable def U2(te:TE):TS:=fun D σ H=>te σ H D.rt
theorem SH(he:PE X e te):PS X (.Return (some e) pos) (U2 te):=by
 intro pins s σ H D I h
 exact wpAny_Return_some (thn (he pins s σ H _ I h) fun v s1 ⟨x,H1,I1,r1,q1⟩=>⟨x,σ,H1,I1,r1,q1⟩)
noncomputable def UC(c:TT)(t u:TS):TS:=fun D σ H=>c σ H fun b H1=>if b=true then t D σ H1 else u D σ H1
theorem PZ{c:Expr}{a b:List Stmt}{tc:TT}(hc:PT X c tc)(ha:PSs X a t)(hb:PSs X b u):PS X (.If c a b pos) (UC tc t u):=by
 intro pins s σ H D I h
 refine wpAny_If (thn (hc pins s σ H _ I h) fun d s1 hq0=>?_)
 obtain⟨H1,I1,q1⟩:=hq0
 cases d with
 |true=>exact ha pins s1 σ H1 D I1 q1
 |false=>exact hb pins s1 σ H1 D I1 q1
noncomputable def Sb:TS:=fun _ _ _=>False
theorem BI{sts:List Stmt}:PSs X sts Sb:=fun _ _ _ _ _ _ h=>h.elim
end
noncomputable abbrev TG:=V->St->Hp->(St->Hp->Prop)->Prop
noncomputable abbrev TGs:=List V->St->Hp->(St->Hp->Prop)->Prop
noncomputable def PG(X:Cx)(target:Expr)(t:TG):Prop:=
 ∀(pins:List (Addr×Obj)) (s:Shared) (σ:St) (H:Hp) (v:V) (u:Value) (Q:St->Hp->Prop),Inv X pins σ H s->RelV v u->t v σ H Q ->
  wpAny (model X.prog X.w) X.A (assign target X.env u) (fun _ s'=>∃bn H',Inv X pins bn H' s'/\Q bn H') X.xe s
noncomputable def PGs(X:Cx)(ts:List Expr)(t:TGs):Prop:=
 ∀(pins:List (Addr×Obj)) (s:Shared) (σ:St) (H:Hp) (vs:List V) (us:List Value) (Q:St->Hp->Prop),Inv X pins σ H s->Vals vs us->t vs σ H Q ->
  wpAny (model X.prog X.w) X.A (assignInOrder ((assignEach ts X.env).map (·.2)) us) (fun _ s'=>∃bn H',Inv X pins bn H' s'/\Q bn H') X.xe s
noncomputable abbrev QE:=V->V->V->Hp->(Hp->Prop)->Prop
noncomputable def Te(X:Cx)(t:QE):Prop:=
 ∀(pins:List (Addr×Obj)) (s:Shared) (σ:St) (H:Hp) (o i v:V) (ov iv u:Value) (Q:Hp->Prop),Inv X pins σ H s->RelV o ov->RelV i iv->RelV v u->t o i v H Q ->
  wpAny (model X.prog X.w) X.A (setItem ov iv u) (fun _ s'=>∃H',Inv X pins σ H' s'/\Q H') X.xe s
section
variable {X:Cx}{pos:Pos}
noncomputable def Mc(i:Nat):TG:=fun v σ H Q=>Q (σ.set i (some v)) H
theorem OT{i:Nat}{x:Str}(hN:X.N.Nodup)(hi:X.N[i]? = some x)(hx:Loc X.env.scope x)(hf:X.fn x=true\/X.env.scope.names.lookup x=some .local:=by first|exact .inl rfl|exact .inr rfl|assumption):PG X (.Name x pos) (Mc i):=by
 intro pins s σ H v u Q I r h
 exact wpAny_assign_Name (lW I hN hi hx r (fun s' I'=>⟨_,H,I',h⟩) hf)
noncomputable def UE:TGs:=fun vs σ H Q=>vs=[]/\Q σ H
noncomputable def To(t:TG)(u:TGs):TGs:=fun vs σ H Q=>∃v r,vs=v::r/\t v σ H fun bn H'=>u r bn H' Q
theorem Ov:PGs X [] UE:=by
 intro pins s σ H vs us Q I r h
 obtain⟨e,h⟩:=h
 subst e
 cases r
 exact assignInOrder_nil ⟨σ,H,I,h⟩
theorem LF{e:Expr}{es:List Expr}{t:TG}{u:TGs}(h1:PG X e t)(h2:PGs X es u)
  (hs:(assignEach (e::es) X.env).map (·.2)=assign e X.env::(assignEach es X.env).map (·.2):=by rfl):PGs X (e::es) (To t u):=by
 intro pins s σ H vs us Q I r h
 obtain⟨v,vr,e1,h⟩:=h
 subst e1
 cases r with
 |cons r rr=>
  rw[hs]
  refine assignInOrder_cons (thn (h1 pins s σ H _ _ _ I r h) fun _ s1 hq0=>?_)
  obtain⟨pd,H1,I1,q1⟩:=hq0
  exact h2 pins s1 pd H1 _ _ Q I1 rr q1
noncomputable def UZ(K:PySem.W.Frag)(n:Nat)(t:TGs):TG:=fun v σ H Q=>∃a xs,v = .ref a/\SqT K H a xs/\xs.length=n/\t xs σ H Q
theorem Rr{es:List Expr}{k:Nat}{t:TGs}{n:Nat}(hc:X.calm=X.calm)(h:PGs X es t)
  (hn:(assignEach es X.env).length=n:=by rfl) (hst:(assignEach es X.env).findIdx? (·.1)=none:=by rfl):PG X (.Tuple es k pos) (UZ X.K n t):=by
 intro pins s σ H v u Q I r hw
 obtain⟨a,xs,e1,hq,hl,hw⟩:=hw
 subst e1
 cases r
 obtain⟨its,rv,ht,hz⟩:=I.tuple hq
 refine AR I.G0 ht (by simp[hn,<- hl,rv.length]) hst fun h' hx=>?_
 have I1:Inv X pins σ H {s with heap:=h'}:=I.kept (t':=s.toks) fun b o e=>hx b o (ne_of_lt (Heap.lt_size e)) e
 exact h pins _ σ H xs _ Q I1 (by simpa using rv) hw
noncomputable def UQ(to ti:TE)(t:QE):TG:=fun v σ H Q=>to σ H fun o H1=>ti σ H1 fun i H2=>t o i v H2 fun H3=>Q σ H3
theorem Sf{o i:Expr}{to ti:TE}{t:QE}(ho:PE X o to)(hi:PE X i ti)(hs:Te X t)
  (ha:∀v,assign (.Subscript o i pos) X.env v=(do
   let ov <- holding [v] (eval o X.env)
   let iv <- holding [v,ov] (eval i X.env)
   standAt pos
   holding [v,ov,iv] (setItem ov iv v)
   release [v,ov,iv] []):=by intro _;rfl):PG X (.Subscript o i pos) (UQ to ti t):=by
 intro pins s σ H v u Q I r h
 rw[ha]
 refine wpAny_bind (wpAny_holding (thn (ho pins s σ H _ I h) fun ov s1 hq0=>?_))
 obtain⟨x,H1,I1,r1,q1⟩:=hq0
 refine wpAny_bind (wpAny_holding (thn (hi pins s1 σ H1 _ I1 q1) fun iv s2 hq0=>?_))
 obtain⟨y,H2,I2,r2,q2⟩:=hq0
 refine wpAny_bind (wpAny_standAt (wpAny_bind (wpAny_holding (thn (hs pins s2 σ H2 x y v ov iv u _ I2 r1 r2 r q2) fun _ s3 hq0=>?_))))
 obtain⟨H3,I3,q3⟩:=hq0
 exact wpAny_release ⟨σ,H3,I3,q3⟩
noncomputable def Sg(te:TE)(g:TG):TS:=fun D σ H=>te σ H fun x H1=>g x σ H1 D.nx
theorem Ru{tg e:Expr}{te:TE}{g:TG}(he:PE X e te)(hg:PG X tg g)(hs:swapsWithSole [tg] e pos.line X.env=pure false:=by rfl)(hw:swappedStores [tg] e X.env=pure none:=by rfl)
  (h1:(assignEach [tg] X.env).map (·.2)=[assign tg X.env]:=by rfl):PS X (.Assign [tg] e pos) (Sg te g):=by
 intro pins s σ H D I h
 refine wpAny_Assign_stores (thn (he pins s σ H _ I h) fun v s1 hq0=>?_) hs hw
 obtain⟨x,H1,I1,r1,q1⟩:=hq0
 rw[h1]
 exact thn (hg pins s1 σ H1 x v _ I1 r1 q1) fun _ s2 q=>q
theorem Rk{i:Nat}{x:Str}{e:Expr}{te:TE}{pos':Pos}(hN:X.N.Nodup)(hi:X.N[i]? = some x)(hx:Loc X.env.scope x)(he:PE X e te)(hs:swapsWith e (some (.Name x pos')) pos.line X.env=pure false:=by rfl)(hf:X.fn x=true\/X.env.scope.names.lookup x=some .local:=by first|exact .inl rfl|exact .inr rfl|assumption) :
  PS X (.Assign [.Name x pos'] e pos) (Sg te (Mc i)):=by
 intro pins s σ H D I h
 refine wpAny_Assign_Name (thn (he pins s σ H _ I h) fun v s1 hq0=>?_) hs
 obtain⟨y,H1,I1,r1,q1⟩:=hq0
 exact lW I1 hN hi hx r1 (fun s2 I2=>⟨_,H1,I2,q1⟩) hf
noncomputable def UJ(i j:Nat)(ta:TA):TS:=fun D σ H=>ta σ H fun vs H1=>∃v w,vs=[v,w]/\D.nx ((σ.set i (some v)).set j (some w)) H1
theorem QC{i j:Nat}{x y:Str}{a b:Expr}{ta:TA}{px py pt:Pos}{kt k2 pt2}(hc:X.calm=true)(hN:X.N.Nodup)(hi:X.N[i]? = some x)(hj:X.N[j]? = some y)(hij:i≠j)
  (hx:X.env.scope.names.lookup x=some .local) (hy:X.env.scope.names.lookup y=some .local) (ha:PA X [a,b] ta)
  (hw:swappedStores [.Tuple [.Name x px,.Name y py] kt pt] (.Tuple [a,b] k2 pt2) X.env=pure (some [x,y]))
  (hs:swapsWithSole [.Tuple [.Name x px,.Name y py] kt pt] (.Tuple [a,b] k2 pt2) pos.line X.env=pure false:=by rfl) :
  PS X (.Assign [.Tuple [.Name x px,.Name y py] kt pt] (.Tuple [a,b] k2 pt2) pos) (UJ i j ta):=by
 intro pins s σ H D I h
 rw[exec_Assign_arm]
 refine wpAny_bind (wpAny_standAt ?_)
 rw[hs]
 refine wpAny_bind (wpAny_pure ?_)
 rw[if_neg ⋯]
 refine wpAny_bind (Tuple_ (thn (ha _ pins s σ H _ I h) fun us s1 hq0=>?_))
 obtain⟨vs,H1,I1,r1,q1⟩:=hq0
 obtain⟨v,w,e1,q1⟩:=q1
 subst e1
 obtain⟨u1,u2,rfl,rv,rw'⟩:∃u1 u2,us=[u1,u2]/\RelV v u1/\RelV w u2:=by
  cases r1 with
  |cons p q=>
   cases q with
   |cons p' q'=>
    cases q'
    exact⟨_,_,rfl,p,p'⟩
 refine wpAny_newObj_type ?_ (by show 2<=sizeLine;decide)
 have I2:Inv X pins σ H1 {s1 with heap:=s1.heap.push {cls:=.type "tuple",data:=.seq [u1,u2].toArray}}:=I1.kept (t':=s1.toks) fun b o e=>Heap.get?_push_of_some _ e
 rw[hw]
 refine wpAny_bind (wpAny_pure ?_)
 show wpAny (model X.prog X.w) X.A (do rule "assign.swapped-stores";let items <- unpackItems (.ref s1.heap.objs.size) 2 none;assignInOrder [fun v=>bindName X.env y v,fun v=>bindName X.env x v] items.reverse;pure Flow.next) _ _ _
 refine wpAny_bind (wpAny_rule (wpAny_bind (unpackItems_tuple (items:=#[u1,u2]) (I.ok.hd hc) (IsTup.new s1.heap _) fun h' hx'=>?_)))
 have I3:=I2.kept (h':=h') (t':=s1.toks) fun b o e=>hx' b o (ne_of_lt (Heap.lt_size e)) e
 show wpAny _ _ (assignInOrder [fun v=>bindName X.env y v,fun v=>bindName X.env x v] [u2,u1]>>=fun _=>pure Flow.next) _ _ _
 refine wpAny_bind (assignInOrder_cons (wpAny_bindName (lW I3 hN hj (.inl hy) rw' (fun s2 I4=>?_) (.inr hy))))
 refine assignInOrder_cons (wpAny_bindName (lW I4 hN hi (.inl hx) rv (fun s3 I5=>assignInOrder_nil (wpAny_pure ?_)) (.inr hx)))
 rw[List.set_comm _ _ (Ne.symm hij)] at I5
 exact⟨_,H1,I5,q1⟩
end
section
variable {X:Cx}{pos:Pos}
noncomputable def RL(c:TT)(tb:TS):TS:=fun D σ H=>∃W:Nat->St->Hp->Prop,(∃m,W m σ H)/\∀m σ H,W m σ H ->
 c σ H fun b H1=>if b=true then ∃N:St->Hp->Prop,(∀bn H',N bn H'->∃m',m'<m/\W m' bn H')/\tb {D with nx:=N,ct:=N,bk:=D.nx} σ H1 else D.nx σ H1
theorem Mq{c:Expr}{body:List Stmt}{tc:TT}{tb:TS}(hp:PassesOwn (model X.prog X.w) X.A X.env X.xe)(hc:PT X c tc)(hb:PSs X body tb):PS X (.While c body [] pos) (RL tc tb):=by
 intro pins s σ H D I h
 obtain⟨W,⟨m0,w0⟩,turn⟩:=h
 refine wpAny_While (codeAny_whileLoop (fun n s'=>∃bn H',Inv X pins bn H' s'/\W n bn H') ?_ m0 ⟨σ,H,I,w0⟩)
 rintro n s1 ⟨pd,H1,I1,w1⟩
 refine wpAny_passesOwn hp (thn (hc pins s1 pd H1 _ I1 (turn n pd H1 w1)) fun b s2 hq0=>?_)
 obtain⟨H2,I2,q2⟩:=hq0
 cases b with
 |true=>
  obtain⟨N,hN,q2⟩:=q2
  rw[if_pos rfl]
  refine wpAny_passesOwn hp (thn (hb pins s2 pd H2 _ I2 q2) fun f s3 q3=>?_)
  cases f with
  |next=>
   obtain⟨lf,H3,I3,n3⟩:=q3
   obtain⟨m',hm,w3⟩:=hN lf H3 n3
   exact⟨m',hm,lf,H3,I3,w3⟩
  |cont=>
   obtain⟨lf,H3,I3,n3⟩:=q3
   obtain⟨m',hm,w3⟩:=hN lf H3 n3
   exact⟨m',hm,lf,H3,I3,w3⟩
  |brk=>exact q3
  |ret v=>exact q3
 |false=>
  rw[if_neg Bool.false_ne_true]
  exact wpAny_execs_nil ⟨pd,H2,I2,q2⟩
end
structure It where
 go:Nat->Hp->Prop
 yld:Nat->Hp->V->Hp->Prop
 stop:Nat->Hp->Prop
noncomputable def xG(X:Cx)(pins:List (Addr×Obj))(H:Hp)(b:Addr):Prop:=
 H b=none/\b≠X.env.locals/\b ∉ X.fs/\(b∈X.ex\/X.gl.heap.objs.size<=b)/\(∀x c,X.env.cells.lookup x=some c->c≠b)/\∀p∈X.pn++pins,p.1≠b
theorem Inv.Lu{X:Cx}{pins:List (Addr×Obj)}{σ:St}{H H':Hp}{s:Shared}{b:Addr}(I:Inv X pins σ H s)(hb:s.heap.objs.size<=b)(hn:H' b=none):xG X pins H' b:=by
 refine⟨hn,Nat.ne_of_gt (lt_of_lt_of_le I.lt hb),I.UU hb,.inr (le_trans I.sz hb),fun x c e z=>?_,fun p hp z=>?_⟩
 ·obtain⟨v,q⟩:=I.cell x c e
  exact absurd (lt_of_lt_of_le q.lt (by rw[z];exact hb)) (lt_irrefl _)
 ·exact absurd (lt_of_lt_of_le (Heap.lt_size (I.pin p hp).1) (by rw[z];exact hb)) (lt_irrefl _)
structure Turn(c:Bool)(P:Program)(w:World)(K:PySem.W.Frag)(tg:Expr)(J:It)(fp:List Addr)(it:Addr)(tn:Nat->Heap->Prop):Prop where
 mem:it∈fp
 obj:∀i h,tn i h->∀b∈fp,∃o,h.get? b=some o/\∀v,o.data≠.cell v
 keep:∀i h h',tn i h->(∀b∈fp,∀o,h.get? b=some o->h'.get? b=some o)->tn i h'
 item:∀(X:Cx),X.prog=P->X.w=w->X.K=K->(c=true->X.calm=true)->∀(i:Nat) (pins:List (Addr×Obj)) (s:Shared) (σ:St) (H:Hp) (E:Value->Shared->Prop),Inv X pins σ H s->(∀b∈fp,xG X pins H b)->tn i s.heap->J.go i H ->
  wpAny (model P w) X.A (pyNext (.ref it)) (fun r s1=>∃u,r=some u /\
   wpAny (model P w) X.A (letOwnedTupleGo tg (.ref it) u) (fun _ s2=>∃x H',Inv X pins σ H' s2/\RelV x u/\J.yld i H x H'/\tn (i+1) s2.heap/\∀b∈fp,H' b=none) E s1) E s
 done:∀(X:Cx),X.prog=P->X.w=w->X.K=K->(c=true->X.calm=true)->∀(i:Nat) (pins:List (Addr×Obj)) (s:Shared) (σ:St) (H:Hp) (E:Value->Shared->Prop),Inv X pins σ H s->(∀b∈fp,xG X pins H b)->tn i s.heap->J.stop i H ->
  wpAny (model P w) X.A (pyNext (.ref it)) (fun r s1=>r=none/\Inv X pins σ H s1) E s
 self:∀(A:Around) (i:Nat) (s:Shared) (Q:Value->Shared->Prop) (E:Value->Shared->Prop),tn i s.heap->Q (.ref it) s->wpAny (model P w) A (pyIter (.ref it)) Q E s
theorem Turn.calm{c:Bool}{P:Program}{w:World}{K:PySem.W.Frag}{tg:Expr}{J:It}{fp:List Addr}{it:Addr}{tn:Nat->Heap->Prop}(T:Turn true P w K tg J fp it tn)(h:c=true):Turn c P w K tg J fp it tn:=by subst h;exact T
noncomputable abbrev TI:=St->Hp->(It->Hp->Prop)->Prop
noncomputable def PIE(X:Cx)(pins:List (Addr×Obj))(σ:St)(tg:Expr)(R:It->Hp->Prop)(itv:Value)(s2:Shared):Prop:=
 ∃(it:Addr) (fp:List Addr) (tn:Nat->Heap->Prop) (J:It) (H':Hp),itv = .ref it/\Inv X pins σ H' s2/\Turn X.calm X.prog X.w X.K tg J fp it tn/\tn 0 s2.heap/\(∀b∈fp,xG X pins H' b)/\R J H'
noncomputable def PI(X:Cx)(tg iter:Expr)(wi:TI):Prop:=
 ∀(pins:List (Addr×Obj)) (s:Shared) (σ:St) (H:Hp) (R:It->Hp->Prop),Inv X pins σ H s->wi σ H R ->
  wpAny (model X.prog X.w) X.A (eval iter X.env) (fun v s1=>wpAny (model X.prog X.w) X.A (pyIter v) (PIE X pins σ tg R) X.xe s1) X.xe s
theorem M6{M:Model}{A:Around}{E:Value->Shared->Prop}{s:Shared}{tg:Expr}{it:Addr}{u:Value}{o:Obj}{n:String}{vs:Array Value}{Q:Unit->Shared->Prop}(ho:s.heap.get? it=some o)(hc:o.cls = .type n)(hd:o.data = .fields vs)
  (hn:["enumerate","zip","dict_itemiterator","dict_reverseitemiterator","odict_iterator","itertools.zip_longest","itertools.pairwise"].contains n=false) (hQ:Q () s):wpAny M A (letOwnedTupleGo tg (.ref it) u) Q E s:=by
 unfold letOwnedTupleGo
 cases tg<;>first
  |exact wpAny_pure hQ
  |(cases u<;>first
    |exact wpAny_pure hQ
    |(refine wpAny_bind (wpAny_load ho ?_)
      rw[hc,hd]
      show wpAny M A (if (["enumerate","zip","dict_itemiterator","dict_reverseitemiterator","odict_iterator","itertools.zip_longest","itertools.pairwise"].contains n&&vs[0]?==some (rawInt _))=true then _ else _) Q E s
      rw[if_neg (by intro h;rw[hn,Bool.false_and] at h;cases h)]
      exact wpAny_pure hQ))
noncomputable def Itl(K:PySem.W.Frag)(a:Addr):It:=
 ⟨fun i H=>∃xs x,SqL K H a xs/\xs[i]? = some x,fun i H x H'=>H'=H/\∀xs,SqL K H a xs->xs[i]? = some x,fun i H=>∃xs,SqL K H a xs/\xs.length<=i⟩
noncomputable def Itt(K:PySem.W.Frag)(a:Addr):It:=
 ⟨fun i H=>∃xs x,SqT K H a xs/\xs[i]? = some x,fun i H x H'=>H'=H/\∀xs,SqT K H a xs->xs[i]? = some x,fun i H=>∃xs,SqT K H a xs/\xs.length<=i⟩
noncomputable def Itr(lo:Int)(n:Nat):It:=⟨fun i _=>i<n,fun i H x H'=>H'=H/\x = .int (lo+i),fun i _=>n<=i⟩
theorem Kl{c:Bool}{P:Program}{w:World}{K:PySem.W.Frag}{tg:Expr}(a it:Addr):Turn c P w K tg (Itl K a) [it] it (fun i h=>h.IsListIter it a i) where
 mem:=by simp
 obj:=fun i h st b hb=>by
  have e:b=it:=by simpa using hb
  subst e
  obtain⟨o,e,c,d⟩:=st
  exact⟨o,e,fun v z=>by rw[d] at z;cases z⟩
 keep:=fun i h h' st k=>st.at fun o e=>k it (by simp) o e
 item:=by
  intro X hP hw hK hc i pins s σ H E I hf st hg
  subst hP hw hK
  obtain⟨xs,x,hq,hx⟩:=hg
  obtain⟨its,rv,p,hz⟩:=I.list hq
  obtain⟨u,hu,ru⟩:=rv.get hx
  obtain⟨f0,f1,f2,f3,f4,f5⟩:=hf it (by simp)
  refine wpAny_pyNext_list_item st p.isList (x:=u) (by simpa using hu) fun h' st' sb=>?_
  have I1:Inv X pins σ H {s with heap:=h'}:=I.turned (t':=s.toks) (fun b o hb e=>(sb.2 b hb).trans e) f0 f1 f3 f4 f5
  obtain⟨o,e,c,d⟩:=id st'
  exact⟨u,rfl,M6 (s:={s with heap:=h'}) e c d ⋯ ⟨x,H,I1,ru,⟨rfl,fun ys hy=>by rw[I.Fy hy hq];exact hx⟩,st',fun b hb=>(hf b hb).1⟩⟩
 done:=by
  intro X hP hw hK hc i pins s σ H E I hf st hg
  subst hP hw hK
  obtain⟨xs,hq,hx⟩:=hg
  obtain⟨its,rv,p,hz⟩:=I.list hq
  obtain⟨f0,f1,f2,f3,f4,f5⟩:=hf it (by simp)
  have hl:=rv.length
  exact AU I.G0 (I.hne f5) st p.isList (by simp;omega) fun h' eb=>⟨rfl,I.turned (t':=s.toks) (fun b o hb e=>eb b o hb e) f0 f1 f3 f4 f5⟩
 self:=fun _ _ _ _ _ st h=>wpAny_pyIter_listiter st h
theorem G4{c:Bool}{P:Program}{w:World}{K:PySem.W.Frag}{tg:Expr}(a it:Addr):Turn c P w K tg (Itt K a) [it] it (fun i h=>h.IsTupleIter it a i) where
 mem:=by simp
 obj:=fun i h st b hb=>by
  have e:b=it:=by simpa using hb
  subst e
  obtain⟨o,e,c,d⟩:=st
  exact⟨o,e,fun v z=>by rw[d] at z;cases z⟩
 keep:=fun i h h' st k=>st.at fun o e=>k it (by simp) o e
 item:=by
  intro X hP hw hK hc i pins s σ H E I hf st hg
  subst hP hw hK
  obtain⟨xs,x,hq,hx⟩:=hg
  obtain⟨its,rv,p,hz⟩:=I.tuple hq
  obtain⟨u,hu,ru⟩:=rv.get hx
  obtain⟨f0,f1,f2,f3,f4,f5⟩:=hf it (by simp)
  refine wpAny_pyNext_tuple_item st (show s.heap.IsTuple a its.toArray from p) (x:=u) (by simpa using hu) fun h' st' sb=>?_
  have I1:Inv X pins σ H {s with heap:=h'}:=I.turned (t':=s.toks) (fun b o hb e=>(sb.2 b hb).trans e) f0 f1 f3 f4 f5
  obtain⟨o,e,c,d⟩:=id st'
  exact⟨u,rfl,M6 (s:={s with heap:=h'}) e c d ⋯ ⟨x,H,I1,ru,⟨rfl,fun ys hy=>by rw[I.JX hy hq];exact hx⟩,st',fun b hb=>(hf b hb).1⟩⟩
 done:=by
  intro X hP hw hK hc i pins s σ H E I hf st hg
  subst hP hw hK
  obtain⟨xs,hq,hx⟩:=hg
  obtain⟨its,rv,p,hz⟩:=I.tuple hq
  obtain⟨f0,f1,f2,f3,f4,f5⟩:=hf it (by simp)
  have hl:=rv.length
  exact tK I.G0 (I.hne f5) st (show s.heap.IsTuple a its.toArray from p) (by simp;omega) fun h' eb=>⟨rfl,I.turned (t':=s.toks) (fun b o hb e=>eb b o hb e) f0 f1 f3 f4 f5⟩
 self:=fun _ _ _ _ _ st h=>wpAny_pyIter_tupleiter st h
theorem Hx{P:Program}{w:World}{K:PySem.W.Frag}{tg:Expr}(it:Addr)(lo:Int)(n:Nat):Turn true P w K tg (Itr lo n) [it] it (fun i h=>IsRangeIter h it (lo+(i:Nat)*1) ((n:Int)-(i:Nat)) 1) where
 mem:=by simp
 obj:=fun i h st b hb=>by
  have e:b=it:=by simpa using hb
  subst e
  exact⟨_,st,fun v z=>by
   have z':Data.fields _=Data.cell v:=z
   cases z'⟩
 keep:=fun i h h' st k=>k it (by simp) _ st
 item:=by
  intro X hP hw hK hc i pins s σ H E I hf st hg
  subst hP hw hK
  obtain⟨f0,f1,f2,f3,f4,f5⟩:=hf it (by simp)
  have W:=Walks.range (prog:=X.prog) (w:=X.w) (I.ok.hd (hc rfl)) it lo 1 n
  refine W.item i s _ _ hg st fun v h' tk hv st' kk=>?_
  obtain⟨t,rfl⟩:=hv
  have I1:Inv X pins σ H {s with heap:=h',toks:=tk}:=I.turned (fun b o hb e=>kk b o (by simpa using hb) e) f0 f1 f3 f4 f5
  refine⟨_,rfl,M6 (s:={s with heap:=h',toks:=tk}) (n:="range_iterator") st' rfl rfl ⋯ ⟨.int (lo+i),H,I1,⟨t,?_⟩,⟨rfl,rfl⟩,st',fun b hb=>(hf b hb).1⟩⟩
  rw[Int.mul_one]
 done:=by
  intro X hP hw hK hc i pins s σ H E I hf st hg
  subst hP hw hK
  obtain⟨f0,f1,f2,f3,f4,f5⟩:=hf it (by simp)
  exact wpAny_pyNext_range_end (I.ok.hd (hc rfl)) st (by have:n<=i:=hg;omega) fun h' eb=>⟨rfl,I.turned (t':=s.toks) (fun b o hb e=>eb b o hb e) f0 f1 f3 f4 f5⟩
 self:=fun _ _ _ _ _ st h=>wpAny_pyIter_rangeiter st h
end L2
namespace L2
open PySem PySem.Spec PyProof.Rows
section
variable {X:Cx}{tg:Expr}
noncomputable def Ui(K:PySem.W.Frag)(tl:TE):TI:=fun σ H R=>tl σ H fun x H1=>∃a,x = .ref a/\(∃xs,SqL K H1 a xs)/\R (Itl K a) H1
noncomputable def UX(K:PySem.W.Frag)(tl:TE):TI:=fun σ H R=>tl σ H fun x H1=>∃a,x = .ref a/\(∃xs,SqT K H1 a xs)/\R (Itt K a) H1
theorem Pp{l:Expr}{tl:TE}(hl:PE X l tl):PI X tg l (Ui X.K tl):=by
 intro pins s σ H R I h
 refine thn (hl pins s σ H _ I h) fun v s1 hq0=>?_
 obtain⟨x,H1,I1,r1,q1⟩:=hq0
 obtain⟨a,e,⟨xs,hq⟩,q⟩:=q1
 subst e
 cases r1
 obtain⟨its,rv,p,hz⟩:=I1.list hq
 refine wpAny_pyIter_list p.isList ?_
 refine⟨s1.heap.objs.size,[s1.heap.objs.size],_,_,H1,rfl,I1.kept (t':=s1.toks) fun b o e=>Heap.get?_push_of_some _ e,Kl a _,⟨_,Heap.get?_push_size _ rfl,rfl,rfl⟩,fun b hb=>?_,q⟩
 have e:b=s1.heap.objs.size:=by simpa using hb
 subst e
 exact I1.Lu (Nat.le_refl _) (I1.hok.fresh (Nat.le_refl _))
theorem RV{l:Expr}{tl:TE}(hl:PE X l tl):PI X tg l (UX X.K tl):=by
 intro pins s σ H R I h
 refine thn (hl pins s σ H _ I h) fun v s1 hq0=>?_
 obtain⟨x,H1,I1,r1,q1⟩:=hq0
 obtain⟨a,e,⟨xs,hq⟩,q⟩:=q1
 subst e
 cases r1
 obtain⟨its,rv,p,hz⟩:=I1.tuple hq
 refine wpAny_pyIter_tuple (show s1.heap.IsTuple a its.toArray from p) ?_
 refine⟨s1.heap.objs.size,[s1.heap.objs.size],_,_,H1,rfl,I1.kept (t':=s1.toks) fun b o e=>Heap.get?_push_of_some _ e,G4 a _,⟨_,Heap.get?_push_size _ rfl,rfl,rfl⟩,fun b hb=>?_,q⟩
 have e:b=s1.heap.objs.size:=by simpa using hb
 subst e
 exact I1.Lu (Nat.le_refl _) (I1.hok.fresh (Nat.le_refl _))
theorem E9(hc:X.calm=true){pins:List (Addr×Obj)}{σ:St}{H:Hp}{s:Shared}{R:It->Hp->Prop}{E:Value->Shared->Prop}{lo hi:Int}{t u v:Tok}{tk:Nat}(I:Inv X pins σ H s)(h1:-(2 ^ 62)<=lo)(h2:lo<2 ^ 62)(h3:-(2 ^ 62)<=hi)(h4:hi<2 ^ 62)
  (q:R (Itr lo (hi-lo).toNat) H):wpAny (model X.prog X.w) X.A (pyIter (.ref s.heap.objs.size)) (PIE X pins σ tg R) E {s with heap:=s.heap.push {cls:=.type "range",data:=.fields #[.int lo t,.int hi u,.int 1 v]},toks:=tk}:=by
 refine wpAny_pyIter_range (IsRange.new ..) (small_one h1 h2 h3 h4) ?_
 have I1:Inv X pins σ H {s with heap:=s.heap.push {cls:=.type "range",data:=.fields #[.int lo t,.int hi u,.int 1 v]},toks:=tk}:=I.kept fun b o e=>Heap.get?_push_of_some _ e
 refine⟨(s.heap.push {cls:=.type "range",data:=.fields #[.int lo t,.int hi u,.int 1 v]}).objs.size,[(s.heap.push {cls:=.type "range",data:=.fields #[.int lo t,.int hi u,.int 1 v]}).objs.size],_,_,H,rfl,
  I1.kept (t':=tk) fun b o e=>Heap.get?_push_of_some _ e,(Hx _ lo (hi-lo).toNat).calm hc,?_,fun b hb=>?_,q⟩
 ·have e1:lo+((0:Nat):Int)*1=lo:=by simp
  have e2:(((hi-lo).toNat:Nat):Int)-((0:Nat):Int)=Builtin.Range.rangeSize lo hi 1:=by rw[rangeSize_one];split<;>omega
  show IsRangeIter _ _ (lo+((0:Nat):Int)*1) ((((hi-lo).toNat:Nat):Int)-((0:Nat):Int)) 1
  rw[e1,e2]
  exact Heap.get?_push_size _ rfl
 ·have e:b=(s.heap.push {cls:=.type "range",data:=.fields #[.int lo t,.int hi u,.int 1 v]}).objs.size:=by simpa using hb
  subst e
  exact I1.Lu (Nat.le_refl _) (I1.hok.fresh (Nat.le_refl _))
noncomputable def Ts(ta:TA):TI:=fun σ H R=>ta σ H fun vs H1=>∃j:Int,vs=[.int j]/\-(2 ^ 62)<=j/\j<2 ^ 62/\R (Itr 0 j.toNat) H1
noncomputable def Ua(ta:TA):TI:=fun σ H R=>ta σ H fun vs H1=>∃i j:Int,vs=[.int i,.int j]/\(-(2 ^ 62)<=i/\i<2 ^ 62/\-(2 ^ 62)<=j/\j<2 ^ 62)/\R (Itr i (j-i).toNat) H1
theorem Ks{a:Expr}{ta:TA}{p pos:Pos}(hc:X.calm=true)(hg:Gl X "range")(hm:X.mg "range"=none)(ha:PA X [a] ta)(hs:starEach [a] X.env=[(false,eval a X.env)]:=by rfl):PI X tg (.Call (.Name "range" p) [a] [] pos) (Ts ta):=by
 intro pins s σ H R I h
 refine Call_ (rZ I hg hm boot_range (PyProof.Rows.callWith_type1 (thn (ha pos pins s σ H _ I h) fun us s1 hq0=>?_) hs rfl))
 obtain⟨vs,H1,I1,r1,q1⟩:=hq0
 obtain⟨j,e,q1,q2,q⟩:=q1
 subst e
 cases r1 with
 |cons r rr=>
  cases rr
  obtain⟨t,rfl⟩:=r
  exact call_range_1 (E9 hc I1 ∅ ∅ q1 q2 (by simpa using q))
theorem Ky{a b:Expr}{ta:TA}{p pos:Pos}(hc:X.calm=true)(hg:Gl X "range")(hm:X.mg "range"=none)(ha:PA X [a,b] ta)(hs:starEach [a,b] X.env=[(false,eval a X.env),(false,eval b X.env)]:=by rfl)(hs2:starEach [b] X.env=[(false,eval b X.env)]:=by rfl) :
  PI X tg (.Call (.Name "range" p) [a,b] [] pos) (Ua ta):=by
 intro pins s σ H R I h
 refine Call_ (rZ I hg hm boot_range (PyProof.Rows.callWith_type1 (thn (ha pos pins s σ H _ I h) fun us s1 hq0=>?_) (by rw[hs,hs2]) (by rw[hs2];rfl)))
 obtain⟨vs,H1,I1,r1,q1⟩:=hq0
 obtain⟨i,j,e,⟨q1,q2,q3,q4⟩,q⟩:=q1
 subst e
 cases r1 with
 |cons r rr=>
  cases rr with
  |cons r' rr=>
   cases rr
   obtain⟨t,rfl⟩:=r
   obtain⟨t',rfl⟩:=r'
   exact call_range_2 (E9 hc I1 q1 q2 q3 q4 q)
noncomputable def UP(wi:TI)(g:TG)(tb:TS):TS:=fun D σ H=>wi σ H fun J H1=>∃W:Nat->Nat->St->Hp->Prop,(∃m,W 0 m σ H1)/\∀i m σ H,W i m σ H ->
 (J.stop i H/\D.nx σ H)\/(J.go i H/\∃N:St->Hp->Prop,(∀bn H',N bn H'->∃m',m'<m/\W (i+1) m' bn H')/\∀x H',J.yld i H x H'->g x σ H' fun ul H2=>tb {D with nx:=N,ct:=N,bk:=D.nx} ul H2)
noncomputable def Dl(fp:List Addr)(h:Heap):List (Addr×Obj):=fp.filterMap fun b=>(h.get? b).map fun o=>(b,o)
theorem fe{fp:List Addr}{h:Heap}{b:Addr}{o:Obj}(hb:b∈fp)(e:h.get? b=some o):(b,o)∈Dl fp h:=List.mem_filterMap.mpr ⟨b,hb,by rw[e];rfl⟩
theorem Kn{fp:List Addr}{h:Heap}{p:Addr×Obj}(hp:p∈Dl fp h):p.1∈fp/\h.get? p.1=some p.2:=by
 obtain⟨b,hb,e⟩:=List.mem_filterMap.mp hp
 cases q:h.get? b with
 |none=>rw[q] at e;cases e
 |some o=>
  rw[q] at e
  have e':(b,o)=p:=Option.some.inj e
  subst e'
  exact⟨hb,q⟩
theorem Inv.pinned{pins:List (Addr×Obj)}{σ:St}{H:Hp}{s:Shared}{fp:List Addr}(I:Inv X pins σ H s)(hf:∀b∈fp,xG X pins H b)(ho:∀b∈fp,∃o,s.heap.get? b=some o/\∀v,o.data≠.cell v):Inv X (pins++Dl fp s.heap) σ H s:=
 I.JF fun p hp=>(List.mem_append.mp hp).elim (fun z=>I.pin p (mem_append_right _ z)) fun z=>by
  obtain⟨hb,e⟩:=Kn z
  obtain⟨f0,f1,f2,_⟩:=hf p.1 hb
  obtain⟨o,e',d⟩:=ho p.1 hb
  rw[e] at e';cases e'
  exact⟨e,f0,f1,f2,d⟩
theorem Inv.mC{pins pl:List (Addr×Obj)}{σ:St}{H:Hp}{s:Shared}(I:Inv X (pins++pl) σ H s):Inv X pins σ H s:=I.JF fun p hp=>I.pin p (mem_append_right _ (mem_append_left _ hp))
theorem Q7{iter:Expr}{body:List Stmt}{wi:TI}{g:TG}{tb:TS}{pos:Pos}(hp:PassesOwn (model X.prog X.w) X.A X.env X.xe)(hc:X.calm=true)(hi:PI X tg iter wi)(hg:PG X tg g)(hb:PSs X body tb)
  (hs:∀x,foldedSetIterable iter X.env x=pure x:=by intro _;rfl):PS X (.For tg iter body [] pos) (UP wi g tb):=by
 intro pins s σ H D I h
 refine wpAny_For (thn (hi pins s σ H _ I h) fun v s1 h1=>thn h1 fun itv s2 h2=>?_) hs
 obtain⟨it,fp,tn,J,H2,e,I2,T,st2,f2,W,⟨m0,w0⟩,turn⟩:=h2
 subst e
 have stat:∀{H':Hp},(∀b∈fp,H' b=none)->∀b∈fp,xG X pins H' b:=fun hn b hb=>⟨hn b hb,(f2 b hb).2⟩
 refine codeAny_forLoop_any (fun n s'=>∃i bn H',Inv X pins bn H' s'/\tn i s'.heap/\(∀b∈fp,H' b=none)/\W i n bn H') ?_ m0 ⟨0,σ,H2,I2,st2,fun b hb=>(f2 b hb).1,w0⟩
 rintro n s3 ⟨i,lf,H3,I3,st3,fr3,w3⟩
 rcases turn i n lf H3 w3 with ⟨stop,qn⟩|⟨go,N,hN,step⟩
 ·refine wpAny_passesOwn hp (thn (T.done X rfl rfl rfl (fun z=>z) i pins s3 lf H3 X.xe I3 (stat fr3) st3 stop) fun r s4 hq0=>?_)
  obtain⟨hr,I4⟩:=hq0
  subst hr
  exact wpAny_execs_nil ⟨lf,H3,I4,qn⟩
 ·refine wpAny_passesOwn hp (thn (T.item X rfl rfl rfl (fun z=>z) i pins s3 lf H3 X.xe I3 (stat fr3) st3 go) fun r s4 hq0=>?_)
  obtain⟨u,hr,h4⟩:=hq0
  subst hr
  refine wpAny_passesOwn hp (thn h4 fun _ s5 hq0=>?_)
  obtain⟨x,H5,I5,r5,y5,st5,fr5⟩:=hq0
  have I5':=I5.pinned (stat fr5) (T.obj _ _ st5)
  refine wpAny_passesOwn hp (thn (hg _ s5 lf H5 x u _ I5' r5 (step x H5 y5)) fun _ s6 hq0=>?_)
  obtain⟨tt,H6,I6,q6⟩:=hq0
  refine wpAny_passesOwn hp (thn (hb _ s6 tt H6 _ I6 q6) fun f s7 q7=>?_)
  have again:∀{lw:St} {H7:Hp},Inv X (pins++Dl fp s5.heap) lw H7 s7->N lw H7->∃m,m<n/\∃i bn H',Inv X pins bn H' s7/\tn i s7.heap/\(∀b∈fp,H' b=none)/\W i m bn H':=fun {lw H7} I7 n7=>by
   obtain⟨m',hm,w7⟩:=hN lw H7 n7
   refine⟨m',hm,i+1,lw,H7,I7.mC,T.keep _ _ _ st5 fun b hb o e=>(I7.pin (b,o) (mem_append_right _ (mem_append_right _ (fe hb e)))).1,fun b hb=>?_,w7⟩
   obtain⟨o,e,d⟩:=T.obj _ _ st5 b hb
   exact (I7.pin (b,o) (mem_append_right _ (mem_append_right _ (fe hb e)))).2.1
  cases f with
  |next=>obtain⟨lw,H7,I7,n7⟩:=q7;exact again I7 n7
  |cont=>obtain⟨lw,H7,I7,n7⟩:=q7;exact again I7 n7
  |brk=>obtain⟨lw,H7,I7,q7⟩:=q7;exact⟨lw,H7,I7.mC,q7⟩
  |ret v=>obtain⟨x7,lw,H7,I7,r7,q7⟩:=q7;exact⟨x7,lw,H7,I7.mC,r7,q7⟩
end
end L2
namespace L2
open PySem PySem.Spec PyProof.Rows
noncomputable abbrev R2:=V->V->Hp->VK->Prop
noncomputable def OpR(X:Cx)(f:Value->Value->Sem Value)(r:R2):Prop:=
 ∀(pins:List (Addr×Obj)) (s:Shared) (σ:St) (H:Hp) (x y:V) (v u:Value) (Q:VK),Inv X pins σ H s->RelV x v->RelV y u->r x y H Q ->
  wpAny (model X.prog X.w) X.A (f v u) (EP X pins σ Q) X.xe s
noncomputable def UnR(X:Cx)(f:Value->Sem Value)(r:V->Hp->VK->Prop):Prop:=
 ∀(pins:List (Addr×Obj)) (s:Shared) (σ:St) (H:Hp) (x:V) (v:Value) (Q:VK),Inv X pins σ H s->RelV x v->r x H Q ->
  wpAny (model X.prog X.w) X.A (f v) (EP X pins σ Q) X.xe s
noncomputable def jc(X:Cx)(f:Value)(r:List V->Hp->VK->Prop):Prop:=
 ∀(pins:List (Addr×Obj)) (s:Shared) (σ:St) (H:Hp) (xs:List V) (us:List Value) (Q:VK),Inv X pins σ H s->Vals xs us->r xs H Q ->
  wpAny (model X.prog X.w) X.A (call f us) (EP X pins σ Q) X.xe s
noncomputable def tOp(r:R2)(ta tb:TE):TE:=fun σ H Q=>ta σ H fun x H1=>tb σ H1 fun y H2=>r x y H2 Q
noncomputable def tUn(r:V->Hp->VK->Prop)(ta:TE):TE:=fun σ H Q=>ta σ H fun x H1=>r x H1 Q
noncomputable def rI(C:Int->Int->Prop)(g:Int->Int->V):R2:=fun x y H Q=>∃i j,x = .int i/\y = .int j/\C i j/\Q (g i j) H
noncomputable def rI0(g:Int->Int->V):R2:=fun x y H Q=>∃i j,x = .int i/\y = .int j/\Q (g i j) H
noncomputable def rU(g:Int->V):V->Hp->VK->Prop:=fun x H Q=>∃i,x = .int i/\Q (g i) H
section
variable {X:Cx}{a b c:Expr}{ta tb tc:TE}{pos:Pos}
theorem QV(ha:PE X a ta)(hb:PE X b tb){pins:List (Addr×Obj)}{s:Shared}{σ:St}{H:Hp}{R:V->V->Hp->Prop}(I:Inv X pins σ H s)
  (h:ta σ H fun x H1=>tb σ H1 fun y H2=>R x y H2) {Q:Value->Shared->Prop} {f:Value->Value->Sem Value}
  (hf:∀v u s2 x y H2,Inv X pins σ H2 s2->RelV x v->RelV y u->R x y H2->wpAny (model X.prog X.w) X.A (f v u) Q X.xe s2) :
  wpAny (model X.prog X.w) X.A (eval a X.env) (fun v dl=>wpAny (model X.prog X.w) X.A (eval b X.env) (fun u jp=>wpAny (model X.prog X.w) X.A (f v u) Q X.xe jp) X.xe dl) X.xe s:=by
 refine thn (ha pins s σ H _ I h) fun v s1 hq0=>?_
 obtain⟨x,H1,I1,r1,q1⟩:=hq0
 refine thn (hb pins s1 σ H1 _ I1 q1) fun u s2 hq0=>?_
 obtain⟨y,H2,I2,r2,q2⟩:=hq0
 exact hf v u s2 x y H2 I2 r1 r2 q2
theorem Uc{op:Operator}{r:R2}(ho:OpR X (binaryOp op) r)(ha:PE X a ta)(hb:PE X b tb):PE X (.BinOp a op b pos) (tOp r ta tb):=by
 intro pins s σ H Q I h
 exact wpAny_BinOp (QV ha hb I h fun v u s2 x y H2 I2 rx ry q=>ho pins s2 σ H2 x y v u Q I2 rx ry q)
theorem TQ{op:UnaryOp}{r:V->Hp->VK->Prop}(ho:UnR X (unaryOp op) r)(ha:PE X a ta):PE X (.UnaryOp op a pos) (tUn r ta):=by
 intro pins s σ H Q I h
 exact UnaryOp_ (thn (ha pins s σ H _ I h) fun v s1 ⟨x,H1,I1,r1,q1⟩=>ho pins s1 σ H1 x v Q I1 r1 q1)
theorem opI{f:Value->Value->Sem Value}{C:Int->Int->Prop}{g:Int->Int->Int}
  (rule:∀(i j:Int) (t u:Tok) (s:Shared) (Q:Value->Shared->Prop) (E:Value->Shared->Prop),C i j->Q (.int (g i j) s.toks) {s with toks:=s.toks+1}->wpAny (model X.prog X.w) X.A (f (.int i t) (.int j u)) Q E s) :
  OpR X f (rI C fun i j=>.int (g i j)):=by
 intro pins s σ H x y v u Q I rx ry h
 obtain⟨i,j,rfl,rfl,hc,q⟩:=h
 obtain⟨t,rfl⟩:=rx
 obtain⟨t',rfl⟩:=ry
 exact rule i j t t' s _ _ hc ⟨.int (g i j),H,I.tok _,⟨_,rfl⟩,q⟩
theorem TN{f:Value->Value->Sem Value}{g:Int->Int->Int}
  (rule:∀(i j:Int) (t u:Tok) (s:Shared) (Q:Value->Shared->Prop) (E:Value->Shared->Prop),Q (.int (g i j) s.toks) {s with toks:=s.toks+1}->wpAny (model X.prog X.w) X.A (f (.int i t) (.int j u)) Q E s) :
  OpR X f (rI0 fun i j=>.int (g i j)):=by
 intro pins s σ H x y v u Q I rx ry h
 obtain⟨i,j,rfl,rfl,q⟩:=h
 obtain⟨t,rfl⟩:=rx
 obtain⟨t',rfl⟩:=ry
 exact rule i j t t' s _ _ ⟨.int (g i j),H,I.tok _,⟨_,rfl⟩,q⟩
theorem Pj{f:Value->Value->Sem Value}{g:Int->Int->Bool}
  (rule:∀(i j:Int) (t u:Tok) (s:Shared) (Q:Value->Shared->Prop) (E:Value->Shared->Prop),Q (.bool (g i j)) s->wpAny (model X.prog X.w) X.A (f (.int i t) (.int j u)) Q E s) :
  OpR X f (rI0 fun i j=>.bl (g i j)):=by
 intro pins s σ H x y v u Q I rx ry h
 obtain⟨i,j,rfl,rfl,q⟩:=h
 obtain⟨t,rfl⟩:=rx
 obtain⟨t',rfl⟩:=ry
 exact rule i j t t' s _ _ ⟨.bl (g i j),H,I,rfl,q⟩
noncomputable def Rw(i j:Int):Prop:=0<=j/\j<=1000000/\i.natAbs<2 ^ 64
noncomputable def Pb(i j:Int):Prop:=(-(2 ^ 64)<i/\i<2 ^ 64)\/(-(2 ^ 64)<j/\j<2 ^ 64)
theorem Pb.ok{i j:Int}(h:Pb i j):IntMulOk i j:=by
 rcases h with ⟨h1,h2⟩|⟨h1,h2⟩
 ·exact .of_left (intBits_le_64 h1 h2)
 ·exact .of_right (intBits_le_64 h1 h2)
theorem Mf:OpR X (binaryOp .Add) (rI0 fun i j=>.int (i+j)):=TN fun _ _ _ _ _ _ _ q=>add_int q
theorem RD:OpR X (binaryOp .Sub) (rI0 fun i j=>.int (i-j)):=TN fun _ _ _ _ _ _ _ q=>sub_int q
theorem Pm:OpR X (binaryOp .Mod) (rI (fun _ j=>j≠0) fun i j=>.int (i.fmod j)):=opI fun _ _ _ _ _ _ _ hc q=>mod_int' hc q
theorem QU:OpR X (binaryOp .Pow) (rI Rw fun i j=>.int (i ^ j.toNat)):=opI fun _ _ _ _ _ _ _ hc q=>pow_int_small hc.1 hc.2.1 hc.2.2 q
theorem unI{f:Value->Sem Value}{g:Int->Int}
  (rule:∀(i:Int) (t:Tok) (s:Shared) (Q:Value->Shared->Prop) (E:Value->Shared->Prop),Q (.int (g i) s.toks) {s with toks:=s.toks+1}->wpAny (model X.prog X.w) X.A (f (.int i t)) Q E s) :
  UnR X f (rU fun i=>.int (g i)):=by
 intro pins s σ H x v Q I rx h
 obtain⟨i,rfl,q⟩:=h
 obtain⟨t,rfl⟩:=rx
 exact rule i t s _ _ ⟨.int (g i),H,I.tok _,⟨_,rfl⟩,q⟩
theorem R6:UnR X (unaryOp .USub) (rU fun i=>.int (-i)):=unI fun _ _ _ _ _ q=>neg_int q
end
section
variable {X:Cx}{a b c:Expr}{ta tb tc:TE}{pos:Pos}
theorem nS:OpR X (compareOp .Lt) (rI0 fun i j=>.bl (decide (i<j))):=Pj fun _ _ _ _ _ _ _ q=>lt_int q
theorem MX:OpR X (compareOp .LtE) (rI0 fun i j=>.bl (decide (i<=j))):=Pj fun _ _ _ _ _ _ _ q=>le_int q
theorem l7:OpR X (compareOp .Gt) (rI0 fun i j=>.bl (decide (j<i))):=Pj fun _ _ _ _ _ _ _ q=>gt_int q
theorem Gq:OpR X (compareOp .GtE) (rI0 fun i j=>.bl (decide (j<=i))):=Pj fun _ _ _ _ _ _ _ q=>ge_int q
theorem OpR.or{f:Value->Value->Sem Value}{r r':R2}(h:OpR X f r)(h':OpR X f r'):OpR X f (fun x y H Q=>r x y H Q\/r' x y H Q):=by
 intro pins s σ H x y v u Q I rx ry q
 rcases q with q|q
 ·exact h pins s σ H x y v u Q I rx ry q
 ·exact h' pins s σ H x y v u Q I rx ry q
theorem aN(b:Expr){op:CmpOp}(h:op≠.In:=by decide)(h2:op≠.NotIn:=by decide):behindInMarks op b=false:=by
 have e1:(op==CmpOp.In)=false:=by cases op<;>first|rfl|exact absurd rfl h
 have e2:(op==CmpOp.NotIn)=false:=by cases op<;>first|rfl|exact absurd rfl h2
 cases b<;>simp[behindInMarks,e1,e2]
theorem OK{op:CmpOp}{r:R2}(ho:OpR X (compareOp op) r)(ha:PE X a ta)(hb:PE X b tb)(hm:behindInMarks op b=false):PE X (.Compare a [op] [b] pos) (tOp r ta tb):=by
 intro pins s σ H Q I h
 exact wpAny_Compare1 (QV ha hb I h fun v u s2 x y H2 I2 rx ry q=>ho pins s2 σ H2 x y v u Q I2 rx ry q) hm
noncomputable def P4(t:TE):TT:=fun σ H Q=>t σ H fun x H'=>∃k,x = .bl k/\Q k H'
theorem PU{op:CmpOp}{r:R2}(ho:OpR X (compareOp op) r)(ha:PE X a ta)(hb:PE X b tb)(hm:behindInMarks op b=false):PT X (.Compare a [op] [b] pos) (P4 (tOp r ta tb)):=by
 intro pins s σ H Q I h
 refine wpAny_isTrue_Compare1 (thn (ha pins s σ H _ I h) fun v s1 ⟨x,H1,I1,r1,q1⟩=>thn (hb pins s1 σ H1 _ I1 q1) fun u s2 ⟨y,H2,I2,r2,q2⟩=>
  thn (ho pins s2 σ H2 x y v u _ I2 r1 r2 q2) fun c s3 ⟨z,H3,I3,r3,k,e,q3⟩=>?_) hm
 subst e
 cases r3
 exact wpAny_truthy_bool ⟨H3,I3,q3⟩
theorem xJ:(sizeLine:Nat)<2 ^ 63:=by rw[sizeLine_eq];decide
theorem vals1{x:V}{us:List Value}(r:Vals [x] us):∃u,us=[u]/\RelV x u:=by
 cases r with
 |cons r1 r2=>cases r2;exact⟨_,rfl,r1⟩
theorem vals2{x y:V}{us:List Value}(r:Vals [x,y] us):∃u w',us=[u,w']/\RelV x u/\RelV y w':=by
 cases r with
 |cons r1 r2=>
  cases r2 with
  |cons r3 r4=>cases r4;exact⟨_,_,rfl,r1,r3⟩
theorem Ms:jc X (.builtin "abs") (fun xs H Q=>∃i,xs=[.int i]/\Q (.int (if i<0 then -i else i)) H):=by
 intro pins s σ H xs us Q I r h
 obtain⟨i,rfl,q⟩:=h
 obtain⟨u,rfl,t,rfl⟩:=vals1 r
 exact call_abs_int fun u tk=>⟨.int (if i<0 then -i else i),H,I.tok _,⟨_,rfl⟩,q⟩
theorem KH(hc:X.calm=true):jc X (.builtin "max") (fun xs H Q=>∃i j,xs=[.int i,.int j]/\Q (.int (if j>i then j else i)) H):=by
 intro pins s σ H xs us Q I r h
 obtain⟨i,j,rfl,q⟩:=h
 obtain⟨u,w',rfl,⟨t,rfl⟩,⟨t',rfl⟩⟩:=vals2 r
 refine max_two_ints (I.ok.hd hc) fun h' tk k=>⟨_,H,I.kept k,?_,q⟩
 by_cases hj:j>i
 ·rw[if_pos hj,if_pos hj];exact⟨_,rfl⟩
 ·rw[if_neg hj,if_neg hj];exact⟨_,rfl⟩
theorem KS(hc:X.calm=true):jc X (.builtin "min") (fun xs H Q=>∃i j,xs=[.int i,.int j]/\Q (.int (if j<i then j else i)) H):=by
 intro pins s σ H xs us Q I r h
 obtain⟨i,j,rfl,q⟩:=h
 obtain⟨u,w',rfl,⟨t,rfl⟩,⟨t',rfl⟩⟩:=vals2 r
 refine min_two_ints (I.ok.hd hc) fun h' tk k=>⟨_,H,I.kept k,?_,q⟩
 by_cases hj:j<i
 ·rw[if_pos hj,if_pos hj];exact⟨_,rfl⟩
 ·rw[if_neg hj,if_neg hj];exact⟨_,rfl⟩
theorem Kc:jc X (.type "int") (fun xs H Q=>(∃i,xs=[.int i]/\Q (.int i) H)\/∃k,xs=[.bl k]/\Q (.int (if k then 1 else 0)) H):=by
 intro pins s σ H xs us Q I r h
 rcases h with ⟨i,rfl,q⟩|⟨k,rfl,q⟩
 ·obtain⟨u,rfl,t,rfl⟩:=vals1 r
  exact call_int_int ⟨.int i,H,I,⟨_,rfl⟩,q⟩
 ·obtain⟨u,rfl,r1⟩:=vals1 r
  cases r1
  exact call_int_bool ⟨.int (if k then 1 else 0),H,I.tok _,⟨_,rfl⟩,q⟩
end
end L2
namespace L2
open PySem PySem.Spec PyProof.Rows
end L2
namespace L2
open PySem PySem.Spec PyProof.Rows
structure fJ(k:Nat)(A:Around):Prop where
 hd:A.handled=none
 dp:A.depth+3*k+5<recursionLimit
 un:A.units+16*k+200<cLine
theorem fJ.mono{j k:Nat}{A:Around}(r:fJ k A)(h:j<=k):fJ j A:=⟨r.hd,by have:=r.dp;omega,by have:=r.un;omega⟩
theorem fJ.deeper{k:Nat}{A:Around}(r:fJ (k+1) A)(env:Env):fJ k (A.deeper env):=
 ⟨r.hd,by have:=r.dp;show A.depth+1+3*k+5<_;omega,by have:=r.un;show A.units+3+16*k+200<_;omega⟩
theorem fJ.depth{k:Nat}{A:Around}(r:fJ k A):A.depth<recursionLimit:=by have:=r.dp;omega
theorem fJ.units{k:Nat}{A:Around}(r:fJ k A):A.units+64<cLine:=by have:=r.un;omega
noncomputable def UI:TA:=fun _ H Q=>Q [] H
noncomputable def SK(ta:TE)(tr:TA):TA:=fun σ H Q=>ta σ H fun x H1=>tr σ H1 fun xs H2=>Q (x::xs) H2
section
variable {X:Cx}{e:Expr}{es:List Expr}{te:TE}{t:TA}{pos:Pos}
theorem pB:PA X [] UI:=fun _ _ _ _ H Q I h=>Calls.spliced_nil ⟨[],H,I,.nil,h⟩
theorem eY(ha:PE X e te)(hr:PA X es t)(hs:starEach (e::es) X.env=(false,eval e X.env)::starEach es X.env:=by rfl):PA X (e::es) (SK te t):=by
 intro pos pins s σ H Q I h
 rw[hs]
 show wpAny _ _ (spliced ((false,eval e X.env)::backTo pos (starEach es X.env))) _ _ s
 refine Calls.spliced_cons (thn (ha pins s σ H _ I h) fun u s1 hq0=>?_)
 obtain⟨x,H1,I1,r1,q1⟩:=hq0
 exact thn (hr pos pins s1 σ H1 _ I1 q1) fun us s2 ⟨xs,H2,I2,r2,q2⟩=>⟨x::xs,H2,I2,.cons r1 r2,q2⟩
noncomputable def UH(t:TA):TE:=fun σ H Q=>t σ H fun xs H1=>xs.length<=sizeLine/\∀p,H1 p=none->Q (.ref p) (upd H1 p (.tup xs))
noncomputable def U1(t:TA):TE:=fun σ H Q=>t σ H fun xs H1=>xs.length<=sizeLine/\∀p,H1 p=none->Q (.ref p) (upd H1 p (.lst xs))
theorem Qv{x1}(h:PA X es t):PE X (.Tuple es x1 pos) (UH t):=by
 intro pins s σ H Q I hq
 refine wpAny_Tuple_spliced (thn (h pos pins s σ H _ I hq) fun us s1 ⟨xs,H1,I1,r,z,q⟩=>⟨by rw[<- r.length];exact z,?_⟩)
 have hf:H1 s1.heap.objs.size=none:=I1.hok.fresh (Nat.le_refl _)
 refine⟨.ref s1.heap.objs.size,upd H1 s1.heap.objs.size (.tup xs),I1.laid (t':=s1.toks) (fun b u e=>Heap.get?_push_of_some _ e) (Nat.le_refl _) ?_,rfl,q _ hf⟩
 exact⟨z,us,r,⟨_,Heap.get?_push_size _ rfl,rfl,_,rfl⟩⟩
theorem Sa(h:PA X es t):PE X (.List es pos) (U1 t):=by
 intro pins s σ H Q I hq
 refine wpAny_List_spliced (thn (h pos pins s σ H _ I hq) fun us s1 ⟨xs,H1,I1,r,z,q⟩=>⟨by rw[<- r.length];exact z,?_⟩)
 have hf:H1 s1.heap.objs.size=none:=I1.hok.fresh (Nat.le_refl _)
 refine⟨.ref s1.heap.objs.size,upd H1 s1.heap.objs.size (.lst xs),I1.laid (t':=s1.toks) (fun b u e=>Heap.get?_push_of_some _ e) (Nat.le_refl _) ?_,rfl,q _ hf⟩
 exact⟨z,us,0,r,Heap.get?_push_size _ rfl⟩
end
noncomputable abbrev Sp:=List V->Hp->VK->XK->Prop
noncomputable abbrev CXT:=List Env->Hp->Shared->XK->Value->Shared->Prop
structure Gv(P:Program)(w:World)(K:PySem.W.Frag)(mg:Str->Option Value)(base:Heap)(A:Around)(outer:List Env)(s:Shared)(H:Hp):Prop where
 frames:A.frames=some outer
 mod:Mod K mg base
 bs:∀b o,base.get? b=some o->s.heap.get? b=some o/\H b=none
 bsz:base.objs.size<=s.heap.objs.size
 se:s.heap.FunFrames base outer
 frf:∀b∈frs outer,H b=none
 hok:HOk P w H s.heap
 bare:AllBare s.gens
noncomputable def CE(outer:List Env)(P:Program)(w:World)(H:Hp)(s:Shared)(Q:VK)(u:Value)(s':Shared):Prop:=
 ∃v H',s'.os=s.os/\AllBare s'.gens/\Un (frs outer) [] H H' s.heap s'.heap/\HOk P w H' s'.heap/\RelV v u/\Q v H'
noncomputable def CR(CX:CXT)(outer:List Env)(P:Program)(w:World)(H:Hp)(s:Shared)(Q:VK)(E:XK)(r:Result)(s':Shared):Prop:=
 match r with
 |.ok (.ret u)=>CE outer P w H s Q u s'
 |.ok _=>False
 |.error e=>CX outer H s E e s'
structure iY(P:Program)(w:World)(K:PySem.W.Frag)(mg:Str->Option Value)(base:Heap)(CX:CXT)(k:Nat)(f:Addr)(fd:FuncData)(ps:List Str)(sp:Sp):Prop where
 len:∀vs H Q E,sp vs H Q E->vs.length=ps.length
 run:∀(A:Around) (outer:List Env) (s:Shared) (H:Hp) (args:Args) (us:List Value) (vs:List V) (Q:VK) (E:XK),fJ k A->Gv P w K mg base A outer s H->BindsTo s fd args (ps.zip us)->Vals vs us->sp vs H Q E ->
  codeAny (model P w) A (.call (.ref f) args) (CR CX outer P w H s Q E) s
theorem iY.imp{P:Program}{w:World}{K:PySem.W.Frag}{mg:Str->Option Value}{base:Heap}{CX:CXT}{k:Nat}{f:Addr}{fd:FuncData}{ps:List Str}{sp sp':Sp}(F:iY P w K mg base CX k f fd ps sp)
  (h:∀vs H Q E,sp' vs H Q E->sp vs H Q E):iY P w K mg base CX k f fd ps sp':=
 ⟨fun vs H Q E q=>F.len vs H Q E (h _ _ _ _ q),fun A outer s H args us vs Q E hr he hb hv hs=>F.run A outer s H args us vs Q E hr he hb hv (h _ _ _ _ hs)⟩
section
variable {X:Cx}{pins:List (Addr×Obj)}{σ:St}{H:Hp}{s s':Shared}
theorem Inv.Q2(I:Inv X pins σ H s):Gv X.prog X.w X.K X.mg X.base X.A X.stack s H:=
 ⟨I.ok.frames,I.ok.mod,I.bs,le_trans I.ok.bsz I.sz,I.stack,I.C5,I.hok,I.bare⟩
theorem Inv.after{Q:VK}{u:Value}(I:Inv X pins σ H s)(h:CE X.stack X.prog X.w H s Q u s'):EP X pins σ Q u s':=by
 obtain⟨v,H',os,bare,un,hok,r,q⟩:=h
 obtain⟨hh,g,d,t,os'⟩:=s'
 obtain rfl:os'=s.os:=os
 exact⟨v,H',I.call (h':=hh) (g':=g) (d':=d) (t':=t) (ch:=[]) un hok bare (fun b z=>absurd z (by simp)),r,q⟩
end
noncomputable def Ut(sp:Sp)(dvs:List V)(E:XK)(t:TA):TE:=fun σ H Q=>t σ H fun vs H1=>sp (vs++dvs) H1 Q E
noncomputable def Binds(K:PySem.W.Frag)(fd:FuncData)(ps:List Str)(ds:List Value):Prop:=
 ∀(s:Shared) (us:List Value),K.In s.heap->(us++ds).length=ps.length->BindsTo s fd ⟨us,[]⟩ (ps.zip (us++ds))
theorem Binds.all{K:PySem.W.Frag}{fd:FuncData}{ps:List Str}(h:∀us:List Value,us.length=ps.length->bindArgs fd ⟨us,[]⟩=pure (ps.zip us)):Binds K fd ps []:=fun s us _ hl=>by
 rw[append_nil] at hl ⊢
 exact .of_eq (h us hl)
noncomputable def Passes(CX:CXT)(X:Cx)(E:XK):Prop:=∀(pins:List (Addr×Obj)) (σ:St) (H:Hp) (s:Shared) (e:Value) (s':Shared),Inv X pins σ H s->CX X.stack H s E e s'->X.xe e s'
section
variable {X:Cx}{CX:CXT}{k:Nat}{f C:Addr}{fd:FuncData}{ps:List Str}{sp:Sp}{dvs:List V}{ds:List Value}{E:XK}{x m:Str}{p pos apos:Pos}{e o:Expr}{es:List Expr}{ta:TE}{t:TA}
theorem QM{pins:List (Addr×Obj)}{σ:St}{H:Hp}{s:Shared}{Q:VK}{us:List Value}{vs:List V}(F:iY X.prog X.w X.K X.mg X.base CX k f fd ps sp)(hr:fJ k X.A)(hb:Binds X.K fd ps ds)(hd:Vals dvs ds)(hx:Passes CX X E)
  (I:Inv X pins σ H s) (r:Vals vs us) (h:sp (vs++dvs) H Q E):wpAny (model X.prog X.w) X.A (call (.ref f) us) (EP X pins σ Q) X.xe s:=by
 have r2:Vals (vs++dvs) (us++ds):=r.append hd
 have hl:(us++ds).length=ps.length:=by rw[<- r2.length];exact F.len _ _ _ _ h
 refine wpAny_call (codeAny_mono (F.run X.A X.stack s H ⟨us,[]⟩ (us++ds) (vs++dvs) Q E hr I.Q2 (hb s us I.kIn hl) r2 h) fun r s' hq=>?_)
 cases r with
 |error e=>exact hx pins σ H s e s' I hq
 |ok fl=>
  cases fl with
  |ret u=>exact I.after hq
  |next=>exact False.elim hq
  |brk=>exact False.elim hq
  |cont=>exact False.elim hq
theorem Jd(F:iY X.prog X.w X.K X.mg X.base CX k f fd ps sp)(hr:fJ k X.A)(hg:Gl X x)(hm:X.mg x=some (.ref f))(hk:keepIn X.K (.ref f)=true)(hb:Binds X.K fd ps ds)(hd:Vals dvs ds)(hx:Passes CX X E)
  (ha:PA X (e::es) t) (hdb:(x==("__debug__":Str))=false:=by decide) (he:starEach (e::es) X.env=(false,eval e X.env)::starEach es X.env:=by rfl) (hpl:(backTo pos (starEach es X.env)).any (·.1)=false:=by rfl) :
  PE X (.Call (.Name x p) (e::es) [] pos) (Ut sp dvs E t):=by
 intro pins s σ H Q I h
 refine wpAny_Call_Name_kw (tI I hg hm ?_ hdb)
 refine PySem.W.callWith_K (h₀:=X.base) I.ok.mod.kin hk (thn (ha pos pins s σ H _ I h) fun us s1 ⟨vs,H1,I1,r,q⟩=>⟨I1.kIn,?_⟩) he hpl
 exact QM F hr hb hd hx I1 r q
end
structure aE(N P:List Str)(sc:Scope):Prop where
 kind:sc.kind = .function
 co:sc.isCoroutine=false
 gen:sc.isGenerator=false
 nd:N.Nodup
 pre:N.take P.length=P
 par:∀x∈P,sc.names.lookup x=some .local\/sc.names.lookup x=some .cell
 RT:∀y∈sc.names,y.2≠.free
theorem By{kindOf:Str->Option NameKind}{x:Str}:∀{binds:List (Str×Value)} {m:Str->Option Value},(∀v,(x,v) ∉ binds)->bindL kindOf binds m x=m x
 |[],_,_=>rfl
 |(n,v)::r,m,h=>by
  unfold bindL
  rw[By fun w hw=>h w (mem_cons_of_mem _ hw)]
  split
  ·have:x≠n:=by rintro rfl;exact h v mem_cons_self
   simp[this]
  ·rfl
theorem B3{kindOf:Str->Option NameKind}{x:Str}:∀{binds:List (Str×Value)} {m:Str->Option Value},(∀v,(x,v) ∉ binds)->bindC kindOf binds m x=m x
 |[],_,_=>rfl
 |(n,v)::r,m,h=>by
  unfold bindC
  rw[B3 fun w hw=>h w (mem_cons_of_mem _ hw)]
  split
  ·rfl
  ·have:x≠n:=by rintro rfl;exact h v mem_cons_self
   simp[this]
theorem BE{kindOf:Str->Option NameKind}{x:Str}{v:Value}:∀{P:List Str} {vs:List Value} {i:Nat} {m:Str->Option Value},P.Nodup->P[i]? = some x->vs[i]? = some v->kindOf x=some .local ->
  bindL kindOf (P.zip vs) m x=some v
 |[],_,_,_,_,h,_,_=>by simp at h
 |_::_,[],_,_,_,_,h,_=>by simp at h
 |p::P,w::vs,0,m,nd,h1,h2,hk=>by
  simp at h1 h2;subst h1;subst h2
  show bindL kindOf ((p,w)::P.zip vs) m p=_
  unfold bindL
  rw[By fun v hv=>(List.nodup_cons.mp nd).1 (List.of_mem_zip hv).1,if_pos hk]
  simp
 |p::P,w::vs,i+1,m,nd,h1,h2,hk=>by
  show bindL kindOf ((p,w)::P.zip vs) m x=_
  unfold bindL
  exact BE (i:=i) (List.nodup_cons.mp nd).2 (by simpa using h1) (by simpa using h2) hk
theorem BX{kindOf:Str->Option NameKind}{x:Str}{v:Value}:∀{P:List Str} {vs:List Value} {i:Nat} {m:Str->Option Value},P.Nodup->P[i]? = some x->vs[i]? = some v->kindOf x≠some .local ->
  bindC kindOf (P.zip vs) m x=some v
 |[],_,_,_,_,h,_,_=>by simp at h
 |_::_,[],_,_,_,_,h,_=>by simp at h
 |p::P,w::vs,0,m,nd,h1,h2,hk=>by
  simp at h1 h2;subst h1;subst h2
  show bindC kindOf ((p,w)::P.zip vs) m p=_
  unfold bindC
  rw[B3 fun v hv=>(List.nodup_cons.mp nd).1 (List.of_mem_zip hv).1,if_neg hk]
  simp
 |p::P,w::vs,i+1,m,nd,h1,h2,hk=>by
  show bindC kindOf ((p,w)::P.zip vs) m x=_
  unfold bindC
  exact BX (i:=i) (List.nodup_cons.mp nd).2 (by simpa using h1) (by simpa using h2) hk
noncomputable def start(N:List Str)(vs:List V):St:=vs.map some++List.replicate (N.length-vs.length) none
noncomputable def kL(CX:CXT)(P:Program)(w:World)(K:PySem.W.Frag)(mg:Str->Option Value)(base:Heap)(N:List Str)(qual:Str)(scope:Scope)(f:Addr)(cd:Value)(A:Around)(outer:List Env)(s:Shared)(H:Hp)(E:XK):Cx where
 prog:=P
 w:=w
 K:=K
 mg:=mg
 base:=base
 A:=A.deeper (envOfC qual scope s.heap.objs.size f cd)
 N:=N
 gl:=s
 H₀:=H
 env:=envOfC qual scope s.heap.objs.size f cd
 outer:=outer
 stack:=envOfC qual scope s.heap.objs.size f cd::outer
 ex:=[]
 calm:=true
 fn:=fun _=>true
 pn:=[]
 xe:=fun e s'=>wpAny (model P w) (A.deeper (envOfC qual scope s.heap.objs.size f cd)) (leaving (envOfC qual scope s.heap.objs.size f cd) e) (fun _ s''=>CX outer H s E e s'') (fun e' s''=>CX outer H s E e' s'') s'
theorem Fp{sc:Scope}{n:Nat}{x:Str}(h:sc.names.lookup x=some .cell):∃c,(cellsFrom n sc.names []).lookup x=some c:=by
 have q:=PySem.W.cellsFrom_some sc.names n [] (.inl h)
 exact Option.isSome_iff_exists.mp q
theorem BB{CX:CXT}{P:Program}{w:World}{K:PySem.W.Frag}{mg:Str->Option Value}{base:Heap}{N ps:List Str}{qual:Str}{scope:Scope}{f:Addr}{cd:Value}{A:Around}{outer:List Env}{s s1:Shared}{H:Hp}{E:XK}{us:List Value}{vs:List V}
  (S:aE N ps scope) (hd:A.handled=none) (e0:Gv P w K mg base A outer s H) (hl:vs.length=ps.length) (r:Vals vs us)
  (x:InCallC s s.heap.objs.size (bindL (envOfC qual scope s.heap.objs.size f cd).kindOf (ps.zip us) fun _=>none) (cellsFrom (s.heap.objs.size+1) scope.names []) (bindC (envOfC qual scope s.heap.objs.size f cd).kindOf (ps.zip us) fun _=>none) s1) :
  Inv (kL CX P w K mg base N qual scope f cd A outer s H E) [] (start N vs) H s1:=by
 have hpl:ps.length<=N.length:=by have:=congrArg List.length S.pre;rw[length_take] at this;omega
 obtain⟨h1,tk,rfl,hk⟩:=x.done
 have noA:∀b:Addr,b ∉ (kL CX P w K mg base N qual scope f cd A outer s H E).ex:=fun b z=>absurd (show b∈([]:List Addr) from z) (by simp)
 refine⟨⟨e0.mod,S.kind,rfl,rfl,Nat.le_refl _,fun y z c h1 h2=>?_,fun y hy=>?_,fun y c _ h=>?_,fun _=>hd,.inl hd,Around.frames_deeper e0.frames,.inr ⟨rfl,rfl⟩,fun b z=>absurd z (noA b),e0.bs,e0.bsz,fun b _ _=>noA b,fun b z=>absurd z (noA b),e0.se,e0.frf⟩,
  rfl,e0.bare,Un.kept hk,⟨_,x.toInCall.ns,fun i y v h1 h2 h3=>?_⟩,fun y c h=>⟨_,x.cell y c h⟩,e0.hok.fresh (Nat.le_refl _),fun y c h=>?_,fun p hp=>absurd (show p∈([]:List (Addr×Obj)) from hp) (by simp),e0.hok.kept hk,?_⟩
 ·exact name_of_addr x.apart (mem_of_lookup h1) (mem_of_lookup h2)
 ·have hy:scope.names.lookup y=some .cell\/scope.names.lookup y=some .free:=hy
  rcases hy with hy|hy
  ·exact Fp hy
  ·exact absurd rfl (S.RT _ (mem_of_lookup hy))
 ·exact Nat.le_of_lt (x.above y c (mem_of_lookup h))
 ·have hi:i<vs.length:=by
   unfold start at h2
   by_cases hi:i<vs.length
   ·exact hi
   ·rw[getElem?_append_right (by simpa using hi)] at h2
    rw[List.getElem?_replicate] at h2
    split at h2<;>cases h2
  have ha:vs[i]? = some v:=by
   unfold start at h2
   rw[getElem?_append_left (by simpa using hi),getElem?_map] at h2
   cases e:vs[i]? with
   |none=>rw[e] at h2;cases h2
   |some a=>rw[e] at h2;cases h2;rfl
  obtain⟨u,hu,rv⟩:=r.get ha
  have hp:ps[i]? = some y:=by
   rw[<- S.pre,List.getElem?_take_of_lt ∅];exact h1
  have ndP:ps.Nodup:=by rw[<- S.pre];exact S.nd.sublist (List.take_sublist _ _)
  refine⟨u,rv,?_⟩
  rcases S.par y (mem_of_getElem? hp) with k|k
  ·exact .inl ⟨k,BE ndP hp hu k⟩
  ·obtain⟨c,e⟩:=Fp (n:=s.heap.objs.size+1) k
   refine .inr ⟨.inl k,c,e,?_⟩
   have q:=x.cell y c e
   rw[BX ndP hp hu (by show scope.names.lookup y≠_;rw[k];decide)] at q
   exact q
 ·exact e0.hok.fresh (Nat.le_of_lt (x.above y c (mem_of_lookup h)))
 ·unfold start
  show _=N.length
  rw[length_append,length_map,List.length_replicate]
  omega
theorem Ni{CX:CXT}{P:Program}{w:World}{K:PySem.W.Frag}{mg:Str->Option Value}{base:Heap}{k:Nat}{f:Addr}{name qual:Str}{params:Arguments}{body:List Stmt}{scope:Scope}{dV kV doc pm cdv ct oc:Value}{an od:Option Addr}
  {osl:Array (Option Value)} {N ps:List Str} {sp:Sp} (lk:K.lookup f=some ⟨oc,od,.func (fnOf name qual params body scope dV kV doc pm an cdv ct),osl⟩) (hcd:codeIn K cdv qual=true) (S:aE N ps scope)
  (len:∀vs H Q E,sp vs H Q E->vs.length=ps.length)
  (hbody:∀(A:Around) (outer:List Env) (s:Shared) (H:Hp) (vs:List V) (Q:VK) (E:XK),fJ k (A.deeper (envOfC qual scope s.heap.objs.size f cdv))->sp vs H Q E ->
   ∃t,PSs (kL CX P w K mg base N qual scope f cdv A outer s H E) body t/\t {nx:=fun _ H'=>Q .non H',rt:=Q} (start N vs) H) :
  iY P w K mg base CX (k+1) f (fnOf name qual params body scope dV kV doc pm an cdv ct) ps sp:=by
 refine⟨len,fun A outer s H args us vs Q E hr e0 hb r hsp=>?_⟩
 have hl:=len _ _ _ _ hsp
 have KX:K.In s.heap:=e0.mod.kin.keeps fun b o e=>(e0.bs b o e).1
 have lim:s.heap.NoLimit:=e0.mod.nolimit.keeps fun b o e=>(e0.bs b o e).1
 have hkind:∀y∈ps.zip us,scope.names.lookup y.1=some .local\/(scope.names.lookup y.1=some .cell/\((cellsFrom (s.heap.objs.size+1) scope.names []).lookup y.1).isSome=true):=fun ⟨n,v⟩ hy=>by
  rcases S.par n (List.of_mem_zip hy).1 with q|q
  ·exact .inl q
  ·exact .inr ⟨q,PySem.W.cellsFrom_some _ _ _ (.inl q)⟩
 refine codeAny_call_function hr.depth (KX _ _ lk) rfl S.co S.gen rfl (PySem.W.codeRec_of KX hcd) (hb _ _ _ _ ?_)
 refine wpAny_newFunctionEnv_cells S.kind hkind fun env he s1 x=>?_
 subst he
 refine⟨lim.keeps x.toInCall.keep,codeAny_func ?_⟩
 obtain⟨t,ht,hq⟩:=hbody A outer s H vs Q E (hr.deeper _) hsp
 have I:Inv (kL CX P w K mg base N qual scope f cdv A outer s H E) [] (start N vs) H s1:=BB S hr.hd e0 hl r x
 refine wpAny_mono (ht [] s1 (start N vs) H _ I hq) (fun fl s' hs=>?_) fun e s' hs=>hs
 have fin:∀{bn:St} {H':Hp} {v:V} {u:Value},Inv (kL CX P w K mg base N qual scope f cdv A outer s H E) [] bn H' s'->RelV v u->Q v H'->CE outer P w H s Q u s':=
  fun {bn H' v u} J rv q=>⟨v,H',J.os,J.bare,J.base,J.hok,rv,q⟩
 cases fl with
 |ret u=>
  obtain⟨v,bn,H',J,rv,q⟩:=hs
  exact fin J rv q
 |next=>
  obtain⟨bn,H',J,q⟩:=hs
  exact fin (v:=V.non) (u:=Value.none) J rfl q
 |brk=>
  obtain⟨_,_,_,q⟩:=hs
  exact False.elim q
 |cont=>
  obtain⟨_,_,_,q⟩:=hs
  exact False.elim q
end L2
namespace L2
open PySem PySem.Spec PyProof.Rows
section
variable {X:Cx}{x:Str}{p pos:Pos}{e:Expr}{es:List Expr}{t:TA}{id T:String}{r:List V->Hp->VK->Prop}
noncomputable def tCB(r:List V->Hp->VK->Prop)(t:TA):TE:=fun σ H Q=>t σ H fun vs H1=>r vs H1 Q
theorem tE(hc:jc X (.builtin id) r)(hg:Gl X x)(hm:X.mg x=none)(hv:bootBuiltins x=some (.builtin id))(ha:PA X (e::es) t)(hn:x ≠ "__name__":=by decide)(hdb:(x==("__debug__":Str))=false:=by decide)
  (he:starEach (e::es) X.env=(false,eval e X.env)::starEach es X.env:=by rfl) (hpl:(backTo pos (starEach es X.env)).any (·.1)=false:=by rfl):PE X (.Call (.Name x p) (e::es) [] pos) (tCB r t):=by
 intro pins s σ H Q I h
 refine wpAny_Call_Name_kw (rZ I hg hm hv ?_ hn hdb)
 exact PyProof.Rows.callWith_builtin1 (thn (ha pos pins s σ H _ I h) fun us s1 ⟨vs,H1,I1,r1,q1⟩=>hc pins s1 σ H1 vs us Q I1 r1 q1) he hpl
theorem K3(hc:jc X (.type T) r)(hg:Gl X x)(hm:X.mg x=none)(hv:bootBuiltins x=some (.type T))(ha:PA X (e::es) t)(hn:x ≠ "__name__":=by decide)(hdb:(x==("__debug__":Str))=false:=by decide)
  (he:starEach (e::es) X.env=(false,eval e X.env)::starEach es X.env:=by rfl) (hpl:(backTo pos (starEach es X.env)).any (·.1)=false:=by rfl):PE X (.Call (.Name x p) (e::es) [] pos) (tCB r t):=by
 intro pins s σ H Q I h
 refine wpAny_Call_Name_kw (rZ I hg hm hv ?_ hn hdb)
 exact PyProof.Rows.callWith_type1 (thn (ha pos pins s σ H _ I h) fun us s1 ⟨vs,H1,I1,r1,q1⟩=>hc pins s1 σ H1 vs us Q I1 r1 q1) he hpl
end
end L2
namespace HT
open PySem PyProof.Rows
section
open PySem.SeqAt
open PySem.AutoSeq1 (wpAny_loadPart')
open PySem.MeetsSeq PySem.MeetsSeq2 PySem.MeetsSeq3
end
section
variable {prog:Program}{w:World}{A:Around}{E:Value->Shared->Prop}{s:Shared}
theorem Pr{t b:Addr}{vs ws:List Value}{Q:Value->Shared->Prop}(ht:IsTup s.heap t vs.toArray)(hb:IsTup s.heap b ws.toArray)(hv:vs≠[])
  (h1:ws=[]->Q (.ref t) s) (h2:ws≠[]->Q (.ref s.heap.objs.size) {s with heap:=s.heap.push {cls:=.type "tuple",data:=.seq (vs++ws).toArray}})
  (hsz:vs.length+ws.length<=sizeLine):wpAny (model prog w) A (binaryOp .Add (.ref t) (.ref b)) Q E s:=by
 obtain⟨⟨cls,dd,data,sl⟩,ho,hc,n,hd⟩:=id ht
 obtain⟨⟨cls2,dd2,data2,sl2⟩,ho2,hc2,n2,hd2⟩:=id hb
 simp only at hc hd hc2 hd2
 subst hc hd hc2 hd2
 have e:vs.toArray++ws.toArray=(vs++ws).toArray:=by simp
 by_cases hw:ws=[]
 ·exact concat_meets ⟨_,ho,rfl⟩ ⟨_,ho2,rfl⟩ noFill_tuple_add seq_tuple_add PySem.F.slot_tuple_add PySem.F.entry_tuple_add (PySem.F.args_tuple_add_2 _ _)
   (tuple_addW1 t b vs.toArray ws.toArray n n2 dd dd2 sl sl2 (by simpa using hv) (by simp[hw])) ⟨ho,ho2,h1 hw⟩
 ·refine concat_meets ⟨_,ho,rfl⟩ ⟨_,ho2,rfl⟩ noFill_tuple_add seq_tuple_add PySem.F.slot_tuple_add PySem.F.entry_tuple_add (PySem.F.args_tuple_add_2 _ _)
   (tuple_addW2 t b vs.toArray ws.toArray n n2 dd dd2 sl sl2 (by simpa using hv) (by simpa using hw) (by rw[size_toArray,size_toArray];exact hsz)) ⟨ho,ho2,?_⟩
  rw[e]
  exact h2 hw
noncomputable def sIx(n d:Nat):Option Int->Nat
 |none=>d
 |some v=>if v<0 then (v+(n:Int)).toNat else min v.toNat n
theorem ED(n d:Nat):sIx n d none=d:=rfl
theorem IP(n d k:Nat):sIx n d (some (k:Int))=min k n:=by
 show (if (k:Int)<0 then ((k:Int)+(n:Int)).toNat else min (k:Int).toNat n)=min k n
 rw[if_neg ∅,Int.toNat_natCast]
theorem QJ(n d:Nat)(hd:d<=n)(o:Option Int):sIx n d o<=n:=by
 cases o with
 |none=>exact hd
 |some v=>
  show (if v<0 then (v+(n:Int)).toNat else min v.toNat n)<=n
  by_cases hv:v<0
  ·rw[if_pos hv];omega
  ·rw[if_neg hv];exact Nat.min_le_right _ _
theorem Jj(v:Int)(n d:Nat):(if v<0 then max (v+(n:Int)) 0 else min v (n:Int))=((sIx n d (some v):Nat):Int):=by
 show (if v<0 then max (v+(n:Int)) 0 else min v (n:Int))=(((if v<0 then (v+(n:Int)).toNat else min v.toNat n):Nat):Int)
 by_cases hv:v<0
 ·simp only[if_pos hv];omega
 ·simp only[if_neg hv];omega
theorem G6(lo hi:Option Int)(n:Nat):Builtin.Slice.sliceAdjust lo hi 1 (n:Int)=(((sIx n 0 lo:Nat):Int),((sIx n n hi:Nat):Int)):=by
 have h1:¬ ((1:Int)<0):=by omega
 unfold Builtin.Slice.sliceAdjust
 simp only[h1,if_false]
 refine Prod.ext ?_ ?_
 ·cases lo with
  |none=>rfl
  |some v=>exact Jj v n 0
 ·cases hi with
  |none=>rfl
  |some v=>exact Jj v n n
theorem G2(i j:Nat):Builtin.Slice.slicePlaces (i:Int) (j:Int) 1=j-i:=by
 unfold Builtin.Slice.slicePlaces
 have h1:(1:Int)>0:=by omega
 simp only[h1,if_true,Int.ediv_one]
 split<;>omega
theorem xS{v:Value}{o:Option Int}{Q:Option Int->Shared->Prop}(p:IsPart v o)(h:Q o s):wpAny (model prog w) A (Builtin.Slice.slicePartIndex v) Q E s:=by
 cases p with
 |none=>exact slicePart_none h
 |int i t=>exact slicePart_int h
theorem lU{sl:Addr}{vl vu:Value}{lo hi:Option Int}{n:Nat}{Q:Int×Int×Nat->Shared->Prop}(hs:s.heap.IsSliceOf sl vl vu .none)(pl:IsPart vl lo)(pu:IsPart vu hi)
  (h:Q (((sIx n 0 lo:Nat):Int),1,sIx n n hi-sIx n 0 lo) s):wpAny (model prog w) A (Builtin.Slice.sliceApplied (.ref sl) (pure (n:Int))) Q E s:=by
 obtain⟨os,hos,hcs,hds⟩:=id hs
 unfold Builtin.Slice.sliceApplied Builtin.Slice.sliceFields
 refine wpAny_bind (wpAny_bind (wpAny_field hos hds (x:=vl) rfl (wpAny_bind (wpAny_field hos hds (x:=vu) rfl (wpAny_bind (wpAny_field hos hds (x:=.none) rfl (wpAny_pure ?_)))))))
 refine wpAny_bind (slicePart_none ?_)
 show wpAny _ _ (if ((1:Int)==0)=true then _ else _) _ _ s
 rw[if_neg ⋯]
 refine wpAny_bind (xS pl (wpAny_bind (xS pu (wpAny_bind (wpAny_pure ?_)))))
 show wpAny _ _ (match Builtin.Slice.sliceAdjust lo hi 1 (n:Int) with|(lo,hi)=>pure (lo,(1:Int),Builtin.Slice.slicePlaces lo hi 1)) _ _ s
 rw[G6 lo hi n]
 show wpAny _ _ (pure (((sIx n 0 lo:Nat):Int),(1:Int),Builtin.Slice.slicePlaces ((sIx n 0 lo:Nat):Int) ((sIx n n hi:Nat):Int) 1)) _ _ s
 rw[G2]
 exact wpAny_pure h
theorem LI(xs:Array Value)(i k:Nat):((List.range k).filterMap fun (m:Nat)=>xs[((i:Int)+(m:Int)*1).toNat]?).toArray=((xs.toList.drop i).take k).toArray:=by
 have e:(fun (m:Nat)=>xs[((i:Int)+(m:Int)*1).toNat]?)=fun m=>xs[i+m]?:=by
  funext m
  have:((i:Int)+(m:Int)*1).toNat=i+m:=by omega
  rw[this]
 rw[e]
 have:=pick_run xs i k
 rw[List.filterMap_map] at this
 have e2:((fun x=>xs[x]?) ∘ fun x=>i+x)=fun m=>xs[i+m]?:=rfl
 rw[e2] at this
 rw[this]
theorem uD{t sl:Addr}{items:Array Value}{vl vu:Value}{lo hi:Option Int}{Q:Value->Shared->Prop}(ht:IsTup s.heap t items)(hs:s.heap.IsSliceOf sl vl vu .none)(pl:IsPart vl lo)(pu:IsPart vu hi)
  (hw:¬ (sIx items.size 0 lo=0/\sIx items.size items.size hi=items.size))
  (h:Q (.ref s.heap.objs.size) {s with heap:=s.heap.push {cls:=.type "tuple",data:=.seq ((items.toList.drop (sIx items.size 0 lo)).take (sIx items.size items.size hi-sIx items.size 0 lo)).toArray}})
  (hsz:items.size<=sizeLine):wpAny (model prog w) A (getItem (.ref t) (.ref sl)) Q E s:=by
 have htake:sizeOk (.seq ((items.toList.drop (sIx items.size 0 lo)).take (sIx items.size items.size hi-sIx items.size 0 lo)).toArray):=by
  show ((items.toList.drop (sIx items.size 0 lo)).take (sIx items.size items.size hi-sIx items.size 0 lo)).toArray.size<=sizeLine
  rw[size_toArray,length_take,length_drop,Array.length_toList]
  omega
 have hj:sIx items.size items.size hi<=items.size:=QJ _ _ (Nat.le_refl _) hi
 obtain⟨os,hos,hcs,hds⟩:=id hs
 have hTs:s.TypeIs (.ref sl) "slice":=⟨os,hos,hcs⟩
 unfold getItem
 try with_reducible refine wpAny_holding ?_
 first|refine wpAny_bind (wpAny_pure ?_)|skip
 refine wpAny_bind (wpAny_sequenceKey ht.typeIs ⋯ ?_)
 refine wpAny_bind (wpAny_callSpecial?_slot (name:=Str.ofString "__getitem__") ht.typeIs PyProof.Rows.slot_tuple_getitem
  (wpAny_call_entry PyProof.Rows.slot_tuple_getitem ht.typeIs entry_tuple_getitem ?_ (args_tuple_getitem _ _)))
 show wpAny _ _ (Builtin.Tuple.tupleItemsOf (.ref t)>>=_) _ _ s
 refine wpAny_bind (tupleItemsOf_ ht ?_)
 refine wpAny_bind (wpAny_typeOf hTs ?_)
 rw[if_pos ⋯]
 refine wpAny_bind (lU hs pl pu ?_)
 have hno:¬ ((((sIx items.size 0 lo:Nat):Int)==0&&(1:Int)==1&&(sIx items.size items.size hi-sIx items.size 0 lo)==items.size)=true):=by
  intro q
  rw[and_eq_true,and_eq_true] at q
  have q1:((sIx items.size 0 lo:Nat):Int)=0:=eq_of_beq q.1.1
  have q2:sIx items.size items.size hi-sIx items.size 0 lo=items.size:=eq_of_beq q.2
  exact hw ⟨∅,∅⟩
 show wpAny _ _ (if (((sIx items.size 0 lo:Nat):Int)==0&&(1:Int)==1&&(sIx items.size items.size hi-sIx items.size 0 lo)==items.size)=true then _ else _) _ _ s
 rw[if_neg hno,LI]
 first
  |exact wpAny_bind (m:=Builtin.Tuple.tupleExact _) (wpAny_newObj_type (wpAny_pure ⟨_,rfl,wpAny_pure h⟩) htake)
  |exact wpAny_bind (m:=Builtin.Tuple.tupleExact _) (wpAny_newObj_type (wpAny_bind (wpAny_pure (wpAny_pure ⟨_,rfl,wpAny_pure h⟩))) htake)
  |exact wpAny_bind (wpAny_bind (m:=Builtin.Tuple.tupleExact _) (wpAny_newObj_type (wpAny_pure (wpAny_pure ⟨_,rfl,wpAny_pure h⟩)) htake))
  |exact wpAny_bind (wpAny_bind (m:=Builtin.Tuple.tupleExact _) (wpAny_newObj_type (wpAny_pure ⟨_,rfl,wpAny_pure h⟩) htake))
end
end HT
namespace L2
open PySem PySem.Spec PyProof.Rows
noncomputable abbrev TO:=St->Hp->(Option Int->Hp->Prop)->Prop
noncomputable def PO(X:Cx)(e:Option Expr)(t:TO):Prop:=
 ∀(pins:List (Addr×Obj)) (s:Shared) (σ:St) (H:Hp) (Q:Option Int->Hp->Prop),Inv X pins σ H s->t σ H Q ->
  wpAny (model X.prog X.w) X.A (evalPart e X.env) (fun u s'=>∃o H',Inv X pins σ H' s'/\IsPart u o/\Q o H') X.xe s
noncomputable def OH:TO:=fun _ H Q=>Q none H
noncomputable def Us(t:TE):TO:=fun σ H Q=>t σ H fun x H1=>∃i,x = .int i/\Q (some i) H1
section
variable {X:Cx}{e:Expr}{te:TE}{lo hi:Option Expr}{tl th:TO}{pos p2:Pos}
theorem O2:PO X none OH:=by
 intro pins s σ H Q I h
 rw[evalPart_none]
 exact wpAny_pure ⟨none,H,I,.none,h⟩
theorem Pt(h:PE X e te):PO X (some e) (Us te):=by
 intro pins s σ H Q I hw
 rw[evalPart_some]
 refine thn (h pins s σ H _ I hw) fun u s1 hq0=>?_
 obtain⟨x,H1,I1,r1,q1⟩:=hq0
 obtain⟨i,rfl,q⟩:=q1
 obtain⟨t,rfl⟩:=r1
 exact⟨some i,H1,I1,.int i t,q⟩
noncomputable def SlR(X:Cx)(r:V->Option Int->Option Int->Hp->VK->Prop):Prop:=
 ∀(pins:List (Addr×Obj)) (s:Shared) (σ:St) (H:Hp) (x:V) (v vl vu:Value) (lo hi:Option Int) (sl:Addr) (Q:VK),Inv X pins σ H s->RelV x v->s.heap.IsSliceOf sl vl vu .none->IsPart vl lo->IsPart vu hi->r x lo hi H Q ->
  ∃T id,typeLookup (.type T) "__getitem__"=pure (some (.builtin id))/\s.TypeIs v T/\wpAny (model X.prog X.w) X.A (getItem v (.ref sl)) (EP X pins σ Q) X.xe s
theorem SlR.or{r r':V->Option Int->Option Int->Hp->VK->Prop}(h:SlR X r)(h':SlR X r'):SlR X (fun x lo hi H Q=>r x lo hi H Q\/r' x lo hi H Q):=by
 intro pins s σ H x v vl vu lo hi sl Q I rx hs pl pu q
 rcases q with q|q
 ·exact h pins s σ H x v vl vu lo hi sl Q I rx hs pl pu q
 ·exact h' pins s σ H x v vl vu lo hi sl Q I rx hs pl pu q
noncomputable def tSl(r:V->Option Int->Option Int->Hp->VK->Prop)(te:TE)(tl th:TO):TE:=fun σ H Q=>te σ H fun x H1=>tl σ H1 fun l H2=>th σ H2 fun u H3=>r x l u H3 Q
theorem NC{r:V->Option Int->Option Int->Hp->VK->Prop}(hr:SlR X r)(he:PE X e te)(hl:PO X lo tl)(hu:PO X hi th):PE X (.Subscript e (.Slice lo hi none p2) pos) (tSl r te tl th):=by
 intro pins s σ H Q I h
 refine Subscript_ (thn (he pins s σ H _ I h) fun v s1 hq0=>?_)
 obtain⟨x,H1,I1,r1,q1⟩:=hq0
 refine wpAny_Slice (thn (hl pins s1 σ H1 _ I1 q1) fun vl s2 ⟨l,H2,I2,pl,q2⟩=>thn (hu pins s2 σ H2 _ I2 q2) fun vu s3 hq0=>?_)
 obtain⟨u,H3,I3,pu,q3⟩:=hq0
 rw[evalPart_none]
 refine wpAny_pure ?_
 have I4:Inv X pins σ H3 {s3 with heap:=s3.heap.push {cls:=.type "slice",data:=.fields #[vl,vu,.none]}}:=I3.kept (t':=s3.toks) fun b ob q=>Heap.get?_push_of_some _ q
 obtain⟨T,id,hT,ht,hg⟩:=hr pins {s3 with heap:=s3.heap.push {cls:=.type "slice",data:=.fields #[vl,vu,.none]}} σ H3 x v vl vu l u s3.heap.objs.size Q I4 r1 (Heap.IsSliceOf.new ..) pl pu q3
 show wpAny (model X.prog X.w) X.A (subscriptTail e (.Slice lo hi none p2) v (.ref s3.heap.objs.size)) (EP X pins σ Q) X.xe {s3 with heap:=s3.heap.push {cls:=.type "slice",data:=.fields #[vl,vu,.none]}}
 exact tail_any (ops:=[.ref s3.heap.objs.size,v]) ht hT hg (by with_unfolding_all rfl)
noncomputable def Ej(xs:List V)(lo hi:Option Int):List V:=(xs.drop (HT.sIx xs.length 0 lo)).take (HT.sIx xs.length xs.length hi-HT.sIx xs.length 0 lo)
theorem wC(xs:List V)(lo hi:Option Int):(Ej xs lo hi).length<=xs.length:=by
 unfold Ej
 rw[length_take,length_drop]
 omega
noncomputable def UO(K:PySem.W.Frag):V->Option Int->Option Int->Hp->VK->Prop:=fun x lo hi H Q=>∃a xs,x = .ref a/\SqT K H a xs /\
 ¬ (HT.sIx xs.length 0 lo=0/\HT.sIx xs.length xs.length hi=xs.length)/\∀p,H p=none->Q (.ref p) (upd H p (.tup (Ej xs lo hi)))
theorem Rn:SlR X (UO X.K):=by
 intro pins s σ H x v vl vu lo hi sl Q I rx hs pl pu h
 obtain⟨a,xs,rfl,hx,hw,q⟩:=h
 cases rx
 obtain⟨its,r,ht,hz⟩:=I.tuple hx
 have hlen:its.toArray.size=xs.length:=by rw[size_toArray];exact r.length.symm
 refine⟨"tuple",_,PyProof.Rows.slot_tuple_getitem.lookup,ht.typeIs,?_⟩
 refine HT.uD ht hs pl pu (by rw[hlen];exact hw) ?_ (by rw[hlen];exact hz)
 rw[hlen]
 refine⟨.ref s.heap.objs.size,_,I.laid (t':=s.toks) (o:=.tup (Ej xs lo hi)) (fun b ob q=>Heap.get?_push_of_some _ q) (Nat.le_refl _) ?_,rfl,q _ (I.hok.fresh (Nat.le_refl _))⟩
 exact⟨le_trans (wC xs lo hi) hz,_,(r.drop (HT.sIx xs.length 0 lo)).take (HT.sIx xs.length xs.length hi-HT.sIx xs.length 0 lo),IsTup.new _ _⟩
noncomputable def Ud(K:PySem.W.Frag):R2:=fun x y H Q=>∃a b xs ys,x = .ref a/\y = .ref b/\SqT K H a xs/\SqT K H b ys/\xs≠[]/\xs.length+ys.length<=sizeLine /\
 (ys=[]->Q (.ref a) H)/\(ys≠[]->∀p,H p=none->Q (.ref p) (upd H p (.tup (xs++ys))))
theorem Vals.DM{xs:List V}{us:List Value}(r:Vals xs us):us=[]↔xs=[]:=by
 cases r with
 |nil=>simp
 |cons _ _=>simp
theorem Od:OpR X (binaryOp .Add) (Ud X.K):=by
 intro pins s σ H x y v u Q I rx ry h
 obtain⟨a,b,xs,ys,rfl,rfl,ha,hb,hx,hz,q1,q2⟩:=h
 cases rx
 cases ry
 obtain⟨its,r1,p1,_⟩:=I.tuple ha
 obtain⟨its2,r2,p2,_⟩:=I.tuple hb
 refine HT.Pr p1 p2 (fun z=>hx (r1.DM.mp z)) (fun z=>⟨.ref a,H,I,rfl,q1 (r2.DM.mp z)⟩) (fun z=>?_) (by rw[<- r1.length,<- r2.length];exact hz)
 refine⟨.ref s.heap.objs.size,_,I.laid (t':=s.toks) (o:=.tup (xs++ys)) (fun b ob q=>Heap.get?_push_of_some _ q) (Nat.le_refl _) ?_,rfl,q2 (fun w=>z (r2.DM.mpr w)) _ (I.hok.fresh (Nat.le_refl _))⟩
 exact⟨by rw[length_append];exact hz,_,r1.append r2,IsTup.new _ _⟩
end
end L2
namespace L2
open PySem PySem.Spec PyProof.Rows
noncomputable def ixN(n:Nat)(i:Int):Option Nat:=if 0<=i then (if i<n then some i.toNat else none) else if -(n:Int)<=i then some (i+n).toNat else none
noncomputable def atI{α:Type}(xs:List α)(i:Int):Option α:=(ixN xs.length i).bind fun j=>xs[j]?
theorem IB{n:Nat}{i:Int}{j:Nat}(h:ixN n i=some j):seqIndex? i n=some j/\j<n/\-(n:Int)<=i/\i<n:=by
 unfold ixN at h
 by_cases h0:0<=i
 ·rw[if_pos h0] at h
  by_cases h1:i<n
  ·rw[if_pos h1] at h
   have e:i.toNat=j:=Option.some.inj h
   exact⟨by rw[seqIndex_of h0 h1,e],∅,∅,h1⟩
  ·rw[if_neg h1] at h;cases h
 ·rw[if_neg h0] at h
  by_cases h1:-(n:Int)<=i
  ·rw[if_pos h1] at h
   have e:(i+n).toNat=j:=Option.some.inj h
   exact⟨by rw[seqIndex_neg ∅ h1,e],∅,h1,∅⟩
  ·rw[if_neg h1] at h;cases h
theorem Cw{α:Type}{xs:List α}{i:Int}{v:α}(h:atI xs i=some v):∃j,seqIndex? i xs.length=some j/\xs[j]? = some v/\j<xs.length/\-(xs.length:Int)<=i/\i<xs.length:=by
 unfold atI at h
 cases e:ixN xs.length i with
 |none=>rw[e] at h;cases h
 |some j=>
  rw[e] at h
  obtain⟨h1,h2,h3,h4⟩:=IB e
  exact⟨j,h1,h,h2,h3,h4⟩
theorem pW{α:Type}{xs:List α}{j:Nat}{v:α}(h:xs[j]? = some v):atI xs (j:Int)=some v:=by
 have hj:j<xs.length:=(List.getElem?_eq_some_iff.mp h).1
 have e:ixN xs.length (j:Int)=some j:=by
  unfold ixN
  rw[if_pos ∅,if_pos ∅];simp
 unfold atI;rw[e];exact h
noncomputable def Iu(b:Expr):Prop:=∀o i,subscripted b false o i=operate [o,i] (getItem o i)
noncomputable def IxR(X:Cx)(r:R2):Prop:=
 ∀(value slice:Expr) (pins:List (Addr×Obj)) (s:Shared) (σ:St) (H:Hp) (x y:V) (v u:Value) (Q:VK),Inv X pins σ H s->RelV x v->RelV y u->r x y H Q ->
  subscripted slice false v u=operate [v,u] (getItem v u)->wpAny (model X.prog X.w) X.A (subscriptTail value slice v u) (EP X pins σ Q) X.xe s
noncomputable def MtR(X:Cx)(id:String)(r:V->List V->Hp->VK->Prop):Prop:=
 ∀(pins:List (Addr×Obj)) (s:Shared) (σ:St) (H:Hp) (x:V) (xs:List V) (v:Value) (us:List Value) (Q:VK),Inv X pins σ H s->RelV x v->Vals xs us->r x xs H Q ->
  wpAny (model X.prog X.w) X.A (call (.builtin id) (v::us)) (EP X pins σ Q) X.xe s
section
variable {X:Cx}{a b:Expr}{ta tb:TE}{pos:Pos}
theorem IxR.or{r r':R2}(h:IxR X r)(h':IxR X r'):IxR X (fun x y H Q=>r x y H Q\/r' x y H Q):=by
 intro value slice pins s σ H x y v u Q I rx ry q hs
 rcases q with q|q
 ·exact h value slice pins s σ H x y v u Q I rx ry q hs
 ·exact h' value slice pins s σ H x y v u Q I rx ry q hs
theorem TM{r:R2}(hr:IxR X r)(ha:PE X a ta)(hb:PE X b tb)(hs:Iu b):PE X (.Subscript a b pos) (tOp r ta tb):=by
 intro pins s σ H Q I h
 exact Subscript_ (QV ha hb I h fun v u s2 x y H2 I2 rx ry q=>hr a b pins s2 σ H2 x y v u Q I2 rx ry q (hs _ _))
noncomputable def Uw(K:PySem.W.Frag):R2:=fun x y H Q=>∃p xs i v,x = .ref p/\y = .int i/\SqL K H p xs/\atI xs i=some v/\Q v H
noncomputable def UA(K:PySem.W.Frag):R2:=fun x y H Q=>∃p xs i v,x = .ref p/\y = .int i/\SqT K H p xs/\atI xs i=some v/\Q v H
noncomputable def TL:R2:=fun x y H Q=>∃z i c,x = .str z/\y = .int i/\z.length<=sizeLine/\atI z.cps.toList i=some c/\Q (.str ⟨#[c]⟩) H
theorem Pe:IxR X (Uw X.K):=by
 intro value slice pins s σ H x y v u Q I rx ry h hs
 obtain⟨p,xs,i,z,rfl,rfl,hq,he,q⟩:=h
 cases rx
 obtain⟨t,rfl⟩:=ry
 obtain⟨its,r,pl,hz⟩:=I.list hq
 obtain⟨j,h1,h2,h3,h4,h5⟩:=Cw he
 obtain⟨w,ew,rw'⟩:=r.get h2
 have hl:=r.length
 have hn:=xJ
 have fin:EP X pins σ Q w s:=⟨z,H,I,rw',q⟩
 by_cases h0:0<=i
 ·have hj:i.toNat=j:=by
   rw[seqIndex_of h0 h5] at h1
   exact Option.some.inj h1
  exact item_listR pl.isList h0 ∅ (by rw[hj];simpa using ew) fin hs
 ·have hj:(i+(its.toArray.size:Int)).toNat=j:=by
   rw[seqIndex_neg ∅ h4] at h1
   rw[size_toArray,<- hl]
   exact Option.some.inj h1
  exact subscriptTail_builtinR (x:=w) pl.isList.typeIs slot_list_getitem.lookup
   (wpAny_getItem_list_neg (Q:=fun r s'=>r=w/\EP X pins σ Q r s') pl.isList ∅ (by rw[size_toArray]<;>omega) ∅ (by rw[hj];simpa using ew) ⟨rfl,fin⟩) hs
theorem RN:IxR X (UA X.K):=by
 intro value slice pins s σ H x y v u Q I rx ry h hs
 obtain⟨p,xs,i,z,rfl,rfl,hq,he,q⟩:=h
 cases rx
 obtain⟨t,rfl⟩:=ry
 obtain⟨its,r,pl,hz⟩:=I.tuple hq
 obtain⟨j,h1,h2,h3,h4,h5⟩:=Cw he
 obtain⟨w,ew,rw'⟩:=r.get h2
 have hl:=r.length
 have hn:=xJ
 have fin:EP X pins σ Q w s:=⟨z,H,I,rw',q⟩
 exact subscriptTail_builtinR (x:=w) pl.typeIs slot_tuple_getitem.lookup
  (getItem_tuple (j:=j) (Q:=fun r s'=>r=w/\EP X pins σ Q r s') pl ∅ ∅ (by rw[size_toArray,<- hl];exact h1) (by simpa using ew) ⟨rfl,fin⟩) hs
theorem Sk:IxR X TL:=by
 intro value slice pins s σ H x y v u Q I rx ry h hs
 obtain⟨z,i,c,rfl,rfl,hz,he,q⟩:=h
 obtain⟨t,rfl⟩:=rx
 obtain⟨t',rfl⟩:=ry
 obtain⟨j,h1,h2,h3,h4,h5⟩:=Cw he
 have hl:z.cps.toList.length=z.length:=by simp[Str.length]
 rw[hl] at h1 h4 h5
 have hn:=xJ
 exact tail_any (typeIs_str s z t) slot_str_getitem.lookup (getItem_str (c:=c) (by
  have e1:decide (i < -(2 ^ 63:Int))=false:=decide_eq_false ∅
  have e2:decide (i ≥ 2 ^ 63)=false:=decide_eq_false ∅
  rw[e1,e2,Bool.or_false]) (by rw[h1];simpa using h2) ⟨.str ⟨#[c]⟩,H,I.tok _,⟨_,rfl⟩,q⟩) hs
noncomputable def rIx(K:PySem.W.Frag):R2:=fun x y H Q=>Uw K x y H Q\/UA K x y H Q\/TL x y H Q
theorem RO:IxR X (rIx X.K):=Pe.or (RN.or Sk)
theorem HJ(its:List Value)(n j:Nat)(u:Value):Obj.mapSeq (·.setIfInBounds j u) {cls:=.type "list",data:=.seq its.toArray n} = {cls:=.type "list",data:=.seq (its.set j u).toArray n}:=by
 simp[Obj.mapSeq]
theorem Inv.lst{pins:List (Addr×Obj)}{σ:St}{H:Hp}{s:Shared}{p:Addr}{xs:List V}(I:Inv X pins σ H s)(h:H p=some (.lst xs)) :
  ∃(its:List Value) (n:Nat),Vals xs its/\s.heap.get? p=some {cls:=.type "list",data:=.seq its.toArray n}/\xs.length<=sizeLine:=by
 obtain⟨z,its,n,r,e⟩:=I.hok p _ h
 exact⟨its,n,r,e,z⟩
theorem Inv.SG{pins:List (Addr×Obj)}{σ:St}{H:Hp}{s:Shared}{p:Addr}{xs ys:List V}{its its':List Value}{n n':Nat}{f:Obj->Obj}(I:Inv X pins σ H s)(h:H p=some (.lst xs))
  (ho:s.heap.get? p=some {cls:=.type "list",data:=.seq its.toArray n}) (hf:f {cls:=.type "list",data:=.seq its.toArray n} = {cls:=.type "list",data:=.seq its'.toArray n'}) (r:Vals ys its') (hz:ys.length<=sizeLine) (t:Nat) :
  Inv X pins σ (upd H p (.lst ys)) {s with heap:=s.heap.update p f,toks:=t}:=by
 have e:(s.heap.update p f).get? p=some {cls:=.type "list",data:=.seq its'.toArray n'}:=by
  rw[Heap.get?_update_self f ho (by rw[hf]<;>rfl),hf]
 refine I.write (x:=p) (e:=p) (by rw[h];trivial) (.inl rfl) (fun b u hb q=>(Heap.get?_update_other _ _ (Ne.symm hb)).trans q) ⟨_,e⟩ ?_
 exact⟨hz,its',n',r,e⟩
noncomputable def Td:V->V->V->Hp->(Hp->Prop)->Prop:=fun o i v H Q=>∃p xs k j,o = .ref p/\i = .int k/\H p=some (.lst xs)/\ixN xs.length k=some j/\Q (upd H p (.lst (xs.set j v)))
theorem set_list:Te X Td:=by
 intro pins s σ H o i v ov iv u Q I ro ri rv h
 obtain⟨p,xs,k,j,rfl,rfl,hp,hj,q⟩:=h
 cases ro
 obtain⟨t,rfl⟩:=ri
 obtain⟨its,n,r,ho,hz⟩:=I.lst hp
 obtain⟨h1,h2,h3,h4⟩:=IB hj
 have hl:=r.length
 have hn:=xJ
 have I':Inv X pins σ (upd H p (.lst (xs.set j v))) {s with heap:=s.heap.update p (Obj.mapSeq (·.setIfInBounds j u))}:=
  I.SG hp ho (HJ its n j u) (r.set rv j) (by rw[List.length_set];exact hz) s.toks
 by_cases h0:0<=k
 ·have hk:k.toNat=j:=by
   rw[seqIndex_of h0 h4] at h1
   exact Option.some.inj h1
  exact PySem.W.ki_setAt ho h0 ∅ (by rw[size_toArray,<- hl];exact h4) (by rw[hk];exact⟨_,I',q⟩)
 ·have hk:(k+(its.toArray.size:Int)).toNat=j:=by
   rw[seqIndex_neg ∅ h3] at h1
   rw[size_toArray,<- hl]
   exact Option.some.inj h1
  exact PySem.W.ki_setBack ho ∅ (by rw[size_toArray,<- hl];exact h3) ∅ (by rw[hk];exact⟨_,I',q⟩)
theorem Dm(lo hi:Option Int)(n:Nat):(sliceBounds lo hi none n).1=((HT.sIx n 0 lo:Nat):Int)/\(sliceBounds lo hi none n).2.1=((HT.sIx n n hi:Nat):Int)/\(sliceBounds lo hi none n).2.2=1:=by
 refine⟨?_,?_,rfl⟩
 ·cases lo with
  |none=>simp[sliceBounds,HT.sIx]
  |some i=>
   simp only[sliceBounds,HT.sIx,Option.getD_none,show (1:Int)>0 by decide,if_true]
   by_cases h:i<0
   ·simp only[h,if_true]<;>omega
   ·simp only[h,if_false]<;>omega
 ·cases hi with
  |none=>simp[sliceBounds,HT.sIx]
  |some i=>
   simp only[sliceBounds,HT.sIx,Option.getD_none,show (1:Int)>0 by decide,if_true]
   by_cases h:i<0
   ·simp only[h,if_true]<;>omega
   ·simp only[h,if_false]<;>omega
theorem AE(its:List Value)(lo hi:Option Int):slicePick its.toArray lo hi none=((its.drop (HT.sIx its.length 0 lo)).take (HT.sIx its.length its.length hi-HT.sIx its.length 0 lo)).toArray:=by
 obtain⟨h1,h2,h3⟩:=Dm lo hi its.toArray.size
 unfold slicePick
 rw[h1,h2,h3]
 simp only[sliceRange_one,pick_run,size_toArray]<;>rfl
noncomputable def U8(K:PySem.W.Frag):V->Option Int->Option Int->Hp->VK->Prop:=fun x lo hi H Q=>∃a xs,x = .ref a/\SqL K H a xs/\∀p,H p=none->Q (.ref p) (upd H p (.lst (Ej xs lo hi)))
theorem OD:SlR X (U8 X.K):=by
 intro pins s σ H x v vl vu lo hi sl Q I rx hs pl pu h
 obtain⟨a,xs,rfl,hx,q⟩:=h
 cases rx
 obtain⟨its,r,ht,hz⟩:=I.list hx
 have hlen:=r.length
 refine⟨"list",_,slot_list_getitem.lookup,ht.isList.typeIs,?_⟩
 refine wpAny_getItem_list_slice ht.isList hs pl pu .none (by simp) ?_ (by rw[size_toArray]<;>omega)
 rw[AE,<- hlen]
 refine⟨.ref s.heap.objs.size,_,I.laid (t':=s.toks) (o:=.lst (Ej xs lo hi)) (fun b ob q=>Heap.get?_push_of_some _ q) (Nat.le_refl _) ?_,rfl,q _ (I.hok.fresh (Nat.le_refl _))⟩
 exact⟨le_trans (wC xs lo hi) hz,_,0,(r.drop (HT.sIx xs.length 0 lo)).take (HT.sIx xs.length xs.length hi-HT.sIx xs.length 0 lo),Heap.get?_push_size _ rfl⟩
theorem Eh:jc X (.builtin "len") (fun xs H Q=>∃p ys,xs=[.ref p]/\(SqL X.K H p ys\/SqT X.K H p ys)/\Q (.int ys.length) H):=by
 intro pins s σ H xs us Q I r h
 obtain⟨p,ys,rfl,hq,q⟩:=h
 obtain⟨u,rfl,rx⟩:=vals1 r
 cases rx
 have hn:=xJ
 rcases hq with hq|hq
 ·obtain⟨its,r',pl,hz⟩:=I.list hq
  have hlen:=r'.length
  exact Calls.call_len_list pl.isList (by simp only[size_toArray]<;>omega) ⟨.int ys.length,H,I.tok _,⟨s.toks+1,by rw[size_toArray,hlen]⟩,q⟩
 ·obtain⟨its,r',pl,hz⟩:=I.tuple hq
  have hlen:=r'.length
  exact len_tuple pl (by simp only[size_toArray]<;>omega) ⟨.int ys.length,H,I.tok _,⟨s.toks+1,by rw[size_toArray,hlen]⟩,q⟩
theorem AH:jc X (.type "tuple") (fun xs H Q=>∃p ys,xs=[.ref p]/\((SqL X.K H p ys/\∀l,H l=none->Q (.ref l) (upd H l (.tup ys)))\/(SqT X.K H p ys/\Q (.ref p) H))):=by
 intro pins s σ H xs us Q I r h
 obtain⟨p,ys,rfl,h⟩:=h
 obtain⟨u,rfl,rx⟩:=vals1 r
 cases rx
 rcases h with ⟨hq,q⟩|⟨hq,q⟩
 ·obtain⟨its,r',pl,hz⟩:=I.list hq
  have hlen:=r'.length
  refine call_tuple_list pl.isList (fun h' kp=>?_) (by simp only[size_toArray]<;>omega)
  have I1:Inv X pins σ H {s with heap:=h'}:=I.kept (t':=s.toks) kp
  have I2:Inv X pins σ (upd H h'.objs.size (.tup ys)) {s with heap:=h'.push {cls:=.type "tuple",data:=.seq its.toArray}}:=
   I1.laid (t':=s.toks) (fun b o e=>Heap.get?_push_of_some _ e) (Nat.le_refl _) (show iM X.prog X.w _ _ _ (.tup ys) from ⟨hz,its,r',IsTup.new _ _⟩)
  exact⟨.ref h'.objs.size,_,I2,rfl,q _ (I1.hok.fresh (Nat.le_refl _))⟩
 ·obtain⟨its,r',pl,hz⟩:=I.tuple hq
  exact call_tuple_same pl ⟨.ref p,H,I,rfl,q⟩
noncomputable def tyV(K:PySem.W.Frag)(T:String)(x:V)(H:Hp):Prop:=match x with
 |.str _=>T = "str"
 |.int _=>T = "int"
 |.ref p=>(T = "list"/\∃xs,SqL K H p xs)\/(T = "tuple"/\∃o,K.lookup p=some o/\o.cls = .type "tuple"/\o.dict=none) \/
   (T = "dict"/\((∃kvs,H p=some (.dK kvs))\/∃kvs,H p=some (.dT kvs)))\/(T = "set"/\∃S n,H p=some (.set S n))
 |_=>False
theorem Rt{pins:List (Addr×Obj)}{σ:St}{H:Hp}{s:Shared}{T:String}{x:V}{v:Value}(I:Inv X pins σ H s)(r:RelV x v)(ty:tyV X.K T x H) :
  s.TypeIs v T/\∀a,v = .ref a->∃ob,s.heap.get? a=some ob/\ob.dict=none:=by
 cases x with
 |str z=>
  obtain⟨t,rfl⟩:=r
  cases (show T = "str" from ty)
  exact⟨typeIs_str s z t,fun _ e=>nomatch e⟩
 |int i=>
  obtain⟨t,rfl⟩:=r
  cases (show T = "int" from ty)
  exact⟨typeIs_int s i t,fun _ e=>nomatch e⟩
 |ref p=>
  cases r
  rcases ty with ⟨rfl,xs,hq⟩|⟨rfl,o,hk,hc,hd⟩|⟨rfl,hk⟩|⟨rfl,S,n,hk⟩
  ·obtain⟨its,_,pl,_⟩:=I.list hq
   refine⟨pl.isList.typeIs,fun a e=>?_⟩
   cases e
   obtain⟨o,n,e,c,hd,_⟩:=pl
   exact⟨o,e,hd⟩
  ·refine⟨⟨o,I.kIn p o hk,hc⟩,fun a e=>?_⟩
   cases e
   exact⟨o,I.kIn _ o hk,hd⟩
  ·have z:∃o,s.heap.get? p=some o/\o.ExactDict:=by
    rcases hk with ⟨kvs,hk⟩|⟨kvs,hk⟩
    ·obtain⟨_,_,_,_,o,_,_,e,ex,_⟩:=I.hok p _ hk
     exact⟨o,e,ex⟩
    ·obtain⟨_,_,_,_,o,_,_,e,ex,_⟩:=I.hok p _ hk
     exact⟨o,e,ex⟩
   obtain⟨o,e,ex⟩:=z
   refine⟨⟨o,e,ex.1⟩,fun a e2=>?_⟩
   cases e2
   exact⟨o,e,ex.2.1⟩
  ·obtain⟨o,_,_,_,e,ex,_⟩:=I.hok p _ hk
   refine⟨⟨o,e,ex.1⟩,fun a e2=>?_⟩
   cases e2
   exact⟨o,e,ex.2.1⟩
 |_=>exact False.elim ty
noncomputable def tBM(K:PySem.W.Frag)(T:String)(r:V->List V->Hp->VK->Prop)(to:TE)(t:TA):TE:=fun σ H Q=>to σ H fun x H1=>tyV K T x H1/\t σ H1 fun xs H2=>r x xs H2 Q
variable {o e:Expr}{es:List Expr}{to:TE}{t:TA}{name:Str}{apos cpos:Pos}{T id:String}{r:V->List V->Hp->VK->Prop}
theorem Lk(pa:PlainAttrs T)(slot:Slot T name id)(hty:typeOf (.builtin id)=pure (.type "method_descriptor"))(hm:MtR X id r)(ho:PE X o to)(ha:PA X (e::es) t)
  (hbase:attributeBase o name X.env (eval o X.env)=eval o X.env:=by rfl)
  (hfew:((backTo cpos (starEach (e::es) X.env)).all (fun x=>!x.1)&&(backToKw cpos (keywordEach [] X.env)).all (fun x=>x.1.isSome)
   && decide ((e::es).length+([]:List Keyword).length+(if ([]:List Keyword).isEmpty then 0 else 1)<30))=true:=by rfl)
  (hline:(apos.endLine==cpos.line)=true:=by rfl) (hs:starEach (e::es) X.env=(false,eval e X.env)::starEach es X.env:=by rfl) (hplain:(backTo cpos (starEach es X.env)).any (·.1)=false:=by rfl) :
  PE X (.Call (.Attribute o name apos) (e::es) [] cpos) (tBM X.K T r to t):=by
 intro pins s σ H Q I h
 refine wpAny_Call_method_late hbase hfew hline rfl (thn (ho pins s σ H _ I h) fun v s1 hq0=>?_)
 obtain⟨x,H1,I1,r1,ty,q1⟩:=hq0
 obtain⟨h1,h2⟩:=Rt I1 r1 ty
 refine⟨T,id,pa,slot,hty,h1,h2,?_⟩
 have hA:=ha cpos pins s1 σ H1 _ I1 q1
 rw[hs] at hA ⊢
 refine Calls.callWith_builtin (by show (false || (backTo cpos (starEach es X.env)).any (·.1))=false;rw[hplain]<;>rfl) (Calls.evalArgs_plain ?_)
 exact thn hA fun us s2 ⟨vs,H2,I2,r2,q2⟩=>hm pins s2 σ H2 x vs v us Q I2 r1 r2 q2
end
end L2
namespace L2
open PySem PySem.Spec PyProof.Rows
noncomputable def MtM(X:Cx)(id:String)(r:V->List V->Hp->VK->Prop):Prop:=
 ∀(pins:List (Addr×Obj)) (s:Shared) (σ:St) (H:Hp) (x:V) (xs:List V) (v:Value) (us:List Value) (Q:VK),Inv X pins σ H s->RelV x v->Vals xs us->r x xs H Q ->
  wpAny (model X.prog X.w) X.A (call (.builtin id) (v::us)) (EP X pins σ Q) X.xe s
theorem Vals.one:∀{x:V} {us:List Value},Vals [x] us->∃u,us=[u]/\RelV x u
 |_,_,.cons r .nil=>⟨_,rfl,r⟩
theorem Vals.dropLast{xs:List V}{us:List Value}(h:Vals xs us):Vals xs.dropLast us.dropLast:=by
 induction h with
 |nil=>exact .nil
 |cons r t ih=>
  cases t with
  |nil=>exact .nil
  |cons q t'=>exact .cons r ih
theorem Vals.eraseIdx:∀{xs:List V} {us:List Value} (i:Nat),Vals xs us->Vals (xs.eraseIdx i) (us.eraseIdx i)
 |_,_,_,.nil=>.nil
 |_,_,0,.cons _ t=>t
 |_,_,i+1,.cons r t=>.cons r (Vals.eraseIdx i t)
theorem Vals.rep{xs:List V}{us:List Value}(h:Vals xs us):∀k:Nat,Vals (List.replicate k xs).flatten (List.replicate k us).flatten
 |0=>.nil
 |k+1=>by
  rw[replicate_succ,replicate_succ,flatten_cons,flatten_cons]
  exact Vals.append h (Vals.rep h k)
theorem BV{α:Type}:∀(l:List α) (i:Nat),(l.eraseIdx i).length<=l.length
 |[],_=>Nat.le_refl _
 |_::_,0=>Nat.le_succ _
 |_::r,i+1=>Nat.succ_le_succ (BV r i)
theorem foldl_rep(its:List Value):∀(k:Nat) (acc:List Value),
  List.foldl (fun x1 x2=>x1++x2) acc.toArray (List.replicate k its.toArray)=(acc++(List.replicate k its).flatten).toArray
 |0,acc=>by simp
 |k+1,acc=>by
  have e:acc.toArray++its.toArray=(acc++its).toArray:=by simp
  have e2:(acc++its)++(List.replicate k its).flatten=acc++(List.replicate (k+1) its).flatten:=by
   rw[replicate_succ,flatten_cons,append_assoc]
  rw[<- e2,<- foldl_rep its k (acc++its),<- e,replicate_succ,List.foldl_cons]
section
variable {X:Cx}{pins:List (Addr×Obj)}{σ:St}{H:Hp}{s:Shared}{l b:Addr}{xs ys zs:List V}
theorem Inv.OM{its its':List Value}{n:Nat}{f:Array Value->Array Value}{t':Nat}(I:Inv X pins σ H s)(hH:H l=some (.lst xs))
  (e:s.heap.get? l=some {cls:=.type "list",data:=.seq its.toArray n}) (hf:f its.toArray=its'.toArray) (hv:Vals ys its') (hz:ys.length<=sizeLine) :
  Inv X pins σ (upd H l (.lst ys)) {s with heap:=s.heap.update l (Obj.mapSeq f),toks:=t'}:=by
 have q:=PySem.IsL.update e f
 rw[hf] at q
 refine I.write (x:=l) (e:=l) (by rw[hH];exact trivial) (.inl rfl) (fun b' u hb hu=>(Heap.get?_update_other s.heap (Obj.mapSeq f) (Ne.symm hb)).trans hu) ⟨_,q⟩ ?_
 exact⟨hz,its',_,hv,q⟩
theorem Inv.T7{its:List Value}{t':Nat}(I:Inv X pins σ H s)(hv:Vals ys its)(hz:ys.length<=sizeLine) :
  Inv X pins σ (upd H s.heap.objs.size (.lst ys)) {s with heap:=s.heap.push {cls:=.type "list",data:=.seq its.toArray},toks:=t'}:=
 I.laid (fun _ _ q=>Heap.get?_push_of_some _ q) (Nat.le_refl _) ⟨hz,its,0,hv,Heap.get?_push_size _ rfl⟩
theorem Inv.fresh(I:Inv X pins σ H s):H s.heap.objs.size=none:=I.hok.fresh (Nat.le_refl _)
theorem Inv.Gf(I:Inv X pins σ H s)(hH:H l=some (.lst xs)):xs.length<=sizeLine/\∃(its:List Value) (n:Nat),Vals xs its/\xs.length=its.length/\s.heap.get? l=some {cls:=.type "list",data:=.seq its.toArray n}:=by
 obtain⟨z,its,n,r,e⟩:=I.hok l _ hH
 exact⟨z,its,n,r,r.length,e⟩
theorem FR{n:Nat}(h:n<=sizeLine):Builtin.List.listTooLong n=false:=by
 unfold Builtin.List.listTooLong
 exact decide_eq_false ∅
end
section
variable {X:Cx}
noncomputable def OO:V->List V->Hp->VK->Prop:=fun x vs H Q=>∃l xs y,x = .ref l/\vs=[y]/\H l=some (.lst xs)/\xs.length<sizeLine/\Q .non (upd H l (.lst (xs++[y])))
theorem uZ:MtM X "list.append" OO:=by
 intro pins s σ H x vs v us Q I rx rv h
 obtain⟨l,xs,y,rfl,rfl,hH,hz,q⟩:=h
 cases rx
 obtain⟨u,rfl,ru⟩:=rv.one
 obtain⟨z,its,n,r,hl,e⟩:=I.Gf hH
 refine call_meets F.slot_list_append ⟨_,e,rfl⟩ F.entry_list_append (F.args_list_append_2 _ _) (PySem.list_append l its.toArray n u (by rw[size_toArray];omega)) ⟨e,?_⟩
 refine⟨.non,_,I.OM (its':=its++[u]) hH e (by simp) (r.append (.cons ru .nil)) ?_,rfl,q⟩
 rw[length_append,List.length_singleton]
 omega
noncomputable def Pq:V->List V->Hp->VK->Prop:=fun x vs H Q=>∃l b xs zs,x = .ref l/\vs=[.ref b]/\H l=some (.lst xs)/\H b=some (.lst zs)/\xs.length+zs.length<=sizeLine/\Q .non (upd H l (.lst (xs++zs)))
theorem SI:MtM X "list.extend" Pq:=by
 intro pins s σ H x vs v us Q I rx rv h
 obtain⟨l,b,xs,zs,rfl,rfl,hH,hB,hz,q⟩:=h
 cases rx
 obtain⟨u,rfl,ru⟩:=rv.one
 cases ru
 obtain⟨z,its,n,r,hl,e⟩:=I.Gf hH
 obtain⟨z2,its2,n2,r2,hl2,e2⟩:=I.Gf hB
 have hsz:its.toArray.size+its2.toArray.size<=sizeLine:=by rw[size_toArray,size_toArray];omega
 have hlong:¬ (!its.toArray.isEmpty&&Builtin.List.listTooLong (its.toArray.size+its2.toArray.size))=true:=by
  rw[FR hsz,Bool.and_false]
  exact Bool.false_ne_true
 refine call_meets F.slot_list_extend ⟨_,e,rfl⟩ F.entry_list_extend (F.args_list_extend_2 _ _)
  (AutoSeq1.list_extend_list_list_0 l its.toArray n b its2.toArray n2 hlong (by rw[size_toArray];omega) ∅) ⟨e,e2,?_⟩
 refine⟨.non,_,I.OM (its':=its++its2) hH e (by simp) (r.append r2) ?_,rfl,q⟩
 rw[length_append]
 omega
noncomputable def Q4:V->List V->Hp->VK->Prop:=fun x vs H Q=>∃l xs i k y,x = .ref l/\vs=[.int i]/\H l=some (.lst xs)/\-(2 ^ 63)<=i/\i<2 ^ 63/\seqIndex? i xs.length=some k/\xs[k]? = some y/\Q y (upd H l (.lst (xs.eraseIdx k)))
theorem M9:MtM X "list.pop" Q4:=by
 intro pins s σ H x vs v us Q I rx rv h
 obtain⟨l,xs,i,k,y,rfl,rfl,hH,h1,h2,hk,hy,q⟩:=h
 cases rx
 obtain⟨u,rfl,ru⟩:=rv.one
 obtain⟨t,rfl⟩:=ru
 obtain⟨z,its,n,r,hl,e⟩:=I.Gf hH
 obtain⟨w,hw,rw'⟩:=r.get hy
 refine call_meets F.slot_list_pop ⟨_,e,rfl⟩ F.entry_list_pop (F.args_list_pop_2 _ _)
  (MeetsSeq.list_pop_at l its.toArray n i t k w (fitsIndex_both h1 h2) (by rw[size_toArray,<- hl];exact hk) (by rw[<- Array.getElem?_toList];exact hw) (by rw[size_toArray];omega)) ⟨e,?_⟩
 refine⟨y,_,I.OM (its':=its.eraseIdx k) hH e ?_ (r.eraseIdx k) ?_,rw',q⟩
 ·show its.toArray.eraseIdxIfInBounds k=(its.eraseIdx k).toArray
  rw[List.eraseIdxIfInBounds_toArray]
 ·have:=BV xs k
  omega
noncomputable def Rq:R2:=fun x y H Q=>∃l b xs zs,x = .ref l/\y = .ref b/\H l=some (.lst xs)/\H b=some (.lst zs)/\xs.length+zs.length<=sizeLine/\∀p,H p=none->Q (.ref p) (upd H p (.lst (xs++zs)))
theorem MD:OpR X (binaryOp .Add) Rq:=by
 intro pins s σ H x y v u Q I rx ry h
 obtain⟨l,b,xs,zs,rfl,rfl,hH,hB,hz,q⟩:=h
 cases rx
 cases ry
 obtain⟨z,its,n,r,hl,e⟩:=I.Gf hH
 obtain⟨z2,its2,n2,r2,hl2,e2⟩:=I.Gf hB
 refine PySem.P.add_list e e2 ?_ (by rw[size_toArray,size_toArray];omega)
 have ea:its.toArray++its2.toArray=(its++its2).toArray:=by simp
 rw[ea]
 exact⟨.ref _,_,I.T7 (t':=s.toks) (r.append r2) (by rw[length_append];omega),rfl,q _ I.fresh⟩
noncomputable def TR:R2:=fun x y H Q=>∃l k xs,x = .ref l/\y = .int k/\H l=some (.lst xs)/\-(2 ^ 63)<=k/\k<2 ^ 63/\xs.length*k.toNat<=sizeLine /\
 ∀p,H p=none->Q (.ref p) (upd H p (.lst (List.replicate k.toNat xs).flatten))
theorem len_rep{α:Type}(xs:List α)(k:Nat):(List.replicate k xs).flatten.length=k*xs.length:=by
 induction k with
 |zero=>simp
 |succ k ih=>rw[replicate_succ,flatten_cons,length_append,ih,Nat.succ_mul,Nat.add_comm]
theorem RG:OpR X (binaryOp .Mult) TR:=by
 intro pins s σ H x y v u Q I rx ry h
 obtain⟨l,k,xs,rfl,rfl,hH,h1,h2,hz,q⟩:=h
 cases rx
 obtain⟨t,rfl⟩:=ry
 obtain⟨z,its,n,r,hl,e⟩:=I.Gf hH
 have hlen:its.toArray.size*k.toNat<=sizeLine:=by rw[size_toArray,<- hl];exact hz
 have hcap:¬ its.toArray.size*k.toNat>(2 ^ 63-1) / 8:=by
  have:(sizeLine:Nat)<=(2 ^ 63-1) / 8:=by decide
  omega
 have hfit:¬ (!Builtin.List.listFitsIndex k)=true:=by
  rw[fitsIndex_both h1 h2]
  exact Bool.false_ne_true
 have hlong:¬ Builtin.List.listTooLong (its.toArray.size*k.toNat)=true:=by
  rw[FR hlen]
  exact Bool.false_ne_true
 have hnew:List.foldl (fun x1 x2=>x1++x2) #[] (List.replicate (if its.toArray.isEmpty=true then 0 else k.toNat) its.toArray)=(List.replicate k.toNat its).flatten.toArray:=by
  have f0:∀m:Nat,List.foldl (fun x1 x2=>x1++x2) #[] (List.replicate m its.toArray)=(List.replicate m its).flatten.toArray:=fun m=>by
   have:=foldl_rep its m []
   rw[nil_append] at this
   exact this
  rw[f0]
  cases its with
  |nil=>simp
  |cons a r'=>rw[if_neg (by simp)]
 refine wpAny_binaryOp_repeat_ref (T:="list") (U:="int") ⋯ ⟨_,e,rfl⟩ (fun s'=>typeIs_int s' k t) noFill_list_mul F.fills_int_mul F.slot_int_rmul repeat_list F.slot_int_index.lookup
  (call_meets F.slot_int_rmul (typeIs_int s k t) F.entry_int_rmul (F.args_int_rmul_2 _ _) (int___rmul___int_list k t l its.toArray n)
   ⟨e,rfl,⟨_,e,rfl⟩,call_meets F.slot_list_mul ⟨_,e,rfl⟩ F.entry_list_mul (F.args_list_mul_2 _ _) (AutoListH.list___mul___list_int_3 l its.toArray n k t hfit hcap hlong) ⟨e,?_⟩⟩)
 rw[hnew]
 exact⟨.ref _,_,I.T7 (t':=s.toks) (r.rep k.toNat) (by rw[len_rep,Nat.mul_comm];exact hz),rfl,q _ I.fresh⟩
end
end L2
namespace Att
open PySem PySem.W PySem.Calls PyProof.Rows
theorem xb{P:Params}{h:Heap}:∀(ns:List Int) (vs:List Value),WellAll P h vs (ns.map WData.int)->IntsAre vs ns:=by
 intro ns
 induction ns with
 |nil=>
  intro vs w
  rw[map_nil] at w
  cases w
  exact .nil
 |cons n ns ih=>
  intro vs w
  rw[map_cons] at w
  cases w with
  |cons a b=>
   cases a
   exact .cons _ _ (ih _ b)
theorem Ka{l:OpenLaw}{n:Nat}(hn:l.most=some n){P:Params}{h:Heap}{args:List WData}{vals:List Value}
  (hpre:l.row.toRowW.claim.pre args=true) (hwl:WellAll P h vals args) :
  ∃a vs ns,vals=[Value.ref a]/\args=[WData.list (ns.map WData.int)]/\h.get? a=some {cls:=.type "list",data:=.seq vs.toArray}/\IntsAre vs ns/\ns.length<=n:=by
 have hsh:WShape.hasAll [] args [.list .int]=true:=(pre_splitW hpre).1
 have hc:l.pre.holds [] {args:=args} = true:=(pre_splitW hpre).2
 obtain⟨d,r,rfl,h1,h2⟩:=hasAllW_cons hsh
 obtain rfl:=hasAllW_nil h2
 obtain⟨xs,rfl,h3⟩:=hasW_list h1
 obtain⟨ns,rfl⟩:=items_int h3
 have hlen:ns.length<=n:=by
  unfold OpenLaw.pre at hc
  have h4:(WTm.not (.lt (.lit (.int (n:Int))) (.len (.arg 0)))).holds [] {args:=[.list (ns.map .int)]} = true:=by
   have h4:=(holds_andW hc).1
   rw[hn] at h4
   exact h4
  have h5:=condW_of h4 (w_not (w_lt w_lit (w_len_list (w_arg rfl))))
  rw[length_map] at h5
  refine Nat.le_of_not_lt fun q=>?_
  have q':(n:Int)<((ns.length:Nat):Int):=by omega
  first
   |(rw[decide_eq_true q'] at h5;exact absurd h5 ⋯)
   |(simp at h5;omega)
 cases hwl with
 |cons w1 w2=>
  cases w2
  cases w1 with
  |list ho hall=>exact⟨_,_,ns,rfl,rfl,ho,xb ns _ hall,hlen⟩
theorem Kk(l:OpenLaw)(args:List WData):l.row.toRowW.claim.post args (.bool true) args=true:=
 postW_of (r:=l.row.toRowW) (X:=(true==true))
  (show WShape.has [] (.bool true) .bool=true by first|rfl|decide|simp[WShape.has,WShape.arms,WShape.armsAll])
  (show (WTm.eq .res (.lit (.bool true))).value [] {args:=args,res:=some (.bool true),after:=args} = some (.bool (true==true)) from w_eq_bool (w_res rfl) w_lit) rfl
theorem E7{l:OpenLaw}{n:Nat}{q:Program}{loose:List Str}{XP:(Str->Option Value)->Heap->Prop}{YP:World->Heap->Prop}{d:DefRec}
  (hn:l.most=some n) (hdf:d.params.defaults=[])
  (call:∀(w:World) (gl dl:Shared) (mg mb:Str->Option Value) (fa:Addr) (o:Obj) (pm cd doc:Value) (a:Addr) (vs:List Value) (ns:List Int),
   Ground q loose [] XP w gl mg mb dl.heap->YP w dl.heap ->
   dl.heap.get? fa=some o->o.data = .func (docDef d.name d.params d.body d.scope pm cd doc)->dl.heap.CodeRec cd d.name->mg d.name=some (.ref fa) ->
   dl.heap.get? a=some {cls:=.type "list",data:=.seq vs.toArray}->IntsAre vs ns->ns.length<=n->dl.gens = #[] ->
   codeAny (model l.prog w) callerA (.call (.ref fa) ⟨[.ref a],[]⟩) (fun r s'=>r = .ok (.ret (.bool true))/\OldK dl.heap s'.heap/\s'.os=dl.os/\AllBare s'.gens) dl) :
  WalkO q loose XP YP l.row.toRowW d [] (fun f vs=>PySem.call f vs):=by
 intro w gl dl mg mb G Y fa o pm cd doc dV kV ho hd hcd hD hmg hg args vals as hpre hlay hrd hwl hlo
 obtain rfl:dV = .none:=Dflts.none hD hdf
 obtain rfl:kV = .none:=Dflts.noKw hD
 obtain⟨a,vs,ns,rfl,rfl,hobj,hints,hlen⟩:=Ka hn hpre hwl
 refine enter_call (codeAny_mono (call w gl dl mg mb fa o pm cd doc a vs ns G Y ho (fd_plain hd) hcd hmg hobj hints hlen hg) fun r s' hq=>?_)
 obtain⟨rfl,h2,h3,h4⟩:=hq
 exact⟨.inl ⟨.bool true,.bool true,[],rfl,fun _=>rfl,.bool true,Kk l _,fun _=>⟨List.Pairwise.nil,fun _ hm=>(nomatch hm)⟩⟩,h2,h3,h4⟩
end Att
namespace L2
open PySem PySem.Spec PyProof.Rows
theorem B6:∀{vs:List Value} {ns:List Int},IntsAre vs ns->Vals (ns.map V.int) vs
 |_,_,.nil=>.nil
 |_,_,.cons n t h=>.cons ⟨t,rfl⟩ (B6 h)
end L2
namespace L2
open PySem PySem.Spec PyProof.Rows
end L2
namespace L2
open PySem PySem.Spec PyProof.Rows
noncomputable abbrev CX0:CXT:=fun _ _ _ _ _ _=>False
noncomputable abbrev E0:XK:=fun _ _ _=>False
theorem SY{X:Cx}:Passes CX0 X E0:=fun _ _ _ _ _ _ _ h=>h.elim
structure Fun(K:PySem.W.Frag)(x qual:Str)(st:Stmt)(f:Addr)(fd:FuncData):Prop where
 ex:∃(oc:Value) (od:Option Addr) (kV doc pm:Value) (an:Option Addr) (cdv ct:Value) (osl:Array (Option Value)),
  fd=fnOf x qual (je st) (dH st) (aw st) .none kV doc pm an cdv ct/\K.lookup f=some ⟨oc,od,.func fd,osl⟩/\codeIn K cdv qual=true
 kp:keepIn K (.ref f)=true
section
variable {P:Program}{w:World}{K:PySem.W.Frag}{mg:Str->Option Value}{base:Heap}
theorem Fun.ok{x qual:Str}{st:Stmt}{f:Addr}{fd:FuncData}{N ps:List Str}{k:Nat}{sp:Sp}(F:Fun K x qual st f fd)(S:aE N ps (aw st))(len:∀vs H Q E,sp vs H Q E->vs.length=ps.length)
  (hbody:∀(cdv:Value) (A:Around) (outer:List Env) (s:Shared) (H:Hp) (vs:List V) (Q:VK) (E:XK),fJ k (A.deeper (envOfC qual (aw st) s.heap.objs.size f cdv))->sp vs H Q E ->
   ∃t,PSs (kL CX0 P w K mg base N qual (aw st) f cdv A outer s H E).nox (dH st) t/\t {nx:=fun _ H'=>Q .non H',rt:=Q} (start N vs) H):iY P w K mg base CX0 (k+1) f fd ps sp:=by
 obtain⟨oc,od,kV,doc,pm,an,cdv,ct,osl,rfl,lk,hcd⟩:=F.ex
 refine Ni lk hcd S len fun A outer s H vs Q E hr hsp=>?_
 obtain⟨t,h,q⟩:=hbody cdv A outer s H vs Q E hr hsp
 exact⟨t,h.nox,q⟩
theorem Fun.binds{x qual:Str}{st:Stmt}{f:Addr}{fd:FuncData}{ps:List Str}(F:Fun K x qual st f fd)
  (h:∀(kV doc pm:Value) (an:Option Addr) (cdv ct:Value) (us:List Value),us.length=ps.length->bindArgs (fnOf x qual (je st) (dH st) (aw st) .none kV doc pm an cdv ct) ⟨us,[]⟩=pure (ps.zip us)):Binds K fd ps []:=by
 obtain⟨oc,od,kV,doc,pm,an,cdv,ct,osl,rfl,lk,hcd⟩:=F.ex
 exact .all (h kV doc pm an cdv ct)
theorem QN{x qual:Str}{st:Stmt}{f:Addr}{oc:Value}{od an:Option Addr}{osl:Array (Option Value)}{kV doc pm cdv ct:Value}(l:K.lookup f=some ⟨oc,od,.func (fnOf x qual (je st) (dH st) (aw st) .none kV doc pm an cdv ct),osl⟩)
  (c:codeIn K cdv qual=true) (k:keepIn K (.ref f)=true):Fun K x qual st f (fnOf x qual (je st) (dH st) (aw st) .none kV doc pm an cdv ct):=⟨⟨oc,od,kV,doc,pm,an,cdv,ct,osl,rfl,l,c⟩,k⟩
end
theorem iu{n:Nat}(h:n<=1000):n<sizeLine:=Nat.lt_of_le_of_lt h ⋯
theorem GW{A B:Prop}(h:B):if false=true then A else B:=by
 rw[if_neg Bool.false_ne_true]
 exact h
theorem HA{A B:Prop}(h:A):if true=true then A else B:=by
 rw[if_pos rfl]
 exact h
noncomputable def D0(H H':Hp):Prop:=∀b o,H b=some o->H' b=some o
theorem D0.refl(H:Hp):D0 H H:=fun _ _ h=>h
end L2
namespace ST
open PySem PySem.SetTable
noncomputable def fiv(M x:Nat):Nat:=(x*5+1) % M
noncomputable def itf(M:Nat):Nat->Nat->Nat
 |0,x=>x
 |n+1,x=>fiv M (itf M n x)
noncomputable def geo:Nat->Nat
 |0=>0
 |p+1=>5*geo p+1
theorem PL:∀p,4*geo p+1=5 ^ p
 |0=>rfl
 |p+1=>by
  have:=PL p
  rw[geo,pow_succ]
  omega
theorem IZ:∀p,geo p % 2=p % 2
 |0=>rfl
 |p+1=>by
  have:=IZ p
  rw[geo]
  omega
theorem OS(q:Nat):geo (2*q)=geo q*(2*geo q+1)*2:=by
 have h1:=PL (2*q)
 have h2:=PL q
 have h3:5 ^ (2*q)=5 ^ q*5 ^ q:=by rw[<- Nat.pow_add];congr 1;omega
 rw[h3,<- h2] at h1
 have h4:(4*geo q+1)*(4*geo q+1)=4*(geo q*(2*geo q+1)*2)+1:=by
  generalize geo q=g
  have:geo q=geo q:=rfl
  simp only[Nat.add_mul,Nat.mul_add,Nat.mul_assoc,Nat.mul_one,Nat.one_mul]
  have e1:g*(4*g)=4*(g*g):=by rw[Nat.mul_left_comm]
  have e2:g*(2*(g*2))=4*(g*g):=by rw[Nat.mul_left_comm,<- Nat.mul_assoc g g 2];omega
  rw[e1,e2]
  omega
 rw[h4] at h1
 omega
theorem Iy:∀k p:Nat,2 ^ k ∣ geo p->2 ^ k ∣ p
 |0,p,_=>by rw[Nat.pow_zero];exact Nat.one_dvd p
 |k+1,p,h=>by
  have h2:2 ∣ geo p:=Nat.dvd_trans ⟨2 ^ k,by rw[pow_succ,Nat.mul_comm]⟩ h
  have hp:p % 2=0:=by rw[<- IZ];omega
  obtain⟨q,rfl⟩:∃q,p=2*q:=⟨p / 2,∅⟩
  rw[OS,pow_succ] at h
  have h3:=Nat.dvd_of_mul_dvd_mul_right (by decide:0<2) h
  have co:Nat.Coprime (2 ^ k) (2*geo q+1):=by
   refine Nat.Coprime.pow_left k ?_
   unfold Nat.Coprime
   rw[Nat.gcd_rec]
   have:(2*geo q+1) % 2=1:=by omega
   rw[this]
   decide
  have h4:=Iy k q (co.dvd_of_dvd_mul_right h3)
  rw[pow_succ,Nat.mul_comm 2 q]
  exact Nat.mul_dvd_mul_right h4 2
theorem L8{M a b:Nat}(h:a % M=b % M):(a*5+1) % M=(b*5+1) % M:=by
 rw[Nat.add_mod,Nat.mul_mod,h,<- Nat.mul_mod,<- Nat.add_mod]
theorem Ij(M:Nat)(x:Nat):∀n,itf M n x % M=(5 ^ n*x+geo n) % M
 |0=>by rw[itf,geo,Nat.pow_zero,Nat.one_mul,Nat.add_zero]
 |n+1=>by
  rw[itf,fiv,Nat.mod_mod,L8 (Ij M x n),geo,pow_succ]
  congr 1
  rw[Nat.add_mul,Nat.mul_right_comm,Nat.mul_comm (geo n) 5];omega
theorem Jm(M:Nat)(a x:Nat):∀b,itf M (a+b) x=itf M b (itf M a x)
 |0=>rfl
 |b+1=>by show fiv M (itf M (a+b) x)=_;rw[Jm M a x b];rfl
theorem cyc{k p x:Nat}(h:(5 ^ p*x+geo p) % 2 ^ k=x % 2 ^ k):2 ^ k ∣ p:=by
 refine Iy k p ?_
 have h1:=Nat.sub_mod_eq_zero_of_mod_eq h
 have e:5 ^ p*x+geo p-x=geo p*(4*x+1):=by
  rw[<- PL p,Nat.add_mul,Nat.mul_add,Nat.mul_one,Nat.one_mul]
  have:4*geo p*x=geo p*(4*x):=by rw[Nat.mul_comm 4,Nat.mul_assoc]
  omega
 rw[e] at h1
 have co:Nat.Coprime (2 ^ k) (4*x+1):=by
  refine Nat.Coprime.pow_left k ?_
  unfold Nat.Coprime
  rw[Nat.gcd_rec]
  have:(4*x+1) % 2=1:=by omega
  rw[this]
  decide
 exact co.dvd_of_dvd_mul_right (Nat.dvd_of_mod_eq_zero h1)
theorem O6{k a b x:Nat}(h:a<b)(hb:b<2 ^ k)(hx:itf (2 ^ k) a x=itf (2 ^ k) b x):False:=by
 obtain⟨p,rfl⟩:∃p,b=a+p:=⟨b-a,∅⟩
 rw[Jm] at hx
 have h1:=Ij (2 ^ k) (itf (2 ^ k) a x) p
 rw[<- hx] at h1
 have h2:=Nat.le_of_dvd ∅ (cyc h1.symm)
 omega
theorem pig:∀(l O:List Nat),l.Nodup->(∀x∈l,x∈O)->l.length<=O.length
 |[],_,_,_=>zero_le _
 |a::l,O,h,s=>by
  rw[List.nodup_cons] at h
  have ha:=s a (mem_cons_self ..)
  have:=pig l (O.erase a) h.2 fun x hx=>(List.mem_erase_of_ne (fun z=>h.1 (by rw[<- z];exact hx))).mpr (s x (mem_cons_of_mem _ hx))
  rw[List.length_erase_of_mem ha] at this
  have:0<O.length:=List.length_pos_of_mem ha
  rw[length_cons]
  omega
theorem KI{k:Nat}{O:List Nat}(x:Nat)(hc:O.length<2 ^ k):∃r,r<=O.length/\itf (2 ^ k) r x ∉ O:=by
 by_cases h:∃r,r<=O.length/\itf (2 ^ k) r x ∉ O
 ·exact h
 exfalso
 have a:∀r,r<=O.length->itf (2 ^ k) r x∈O:=fun r hr=>Classical.byContradiction fun z=>h ⟨r,hr,z⟩
 have:=pig ((List.range (O.length+1)).map fun r=>itf (2 ^ k) r x) O ?_ fun y hy=>?_
 ·rw[length_map,List.length_range] at this
  omega
 ·refine List.pairwise_map.mpr (List.Pairwise.imp_of_mem (fun {p q} hp hq (hpq:p<q) z=>?_) List.pairwise_lt_range)
  rw[List.mem_range] at hq
  exact O6 hpq ∅ z
 ·obtain⟨r,hr,rfl⟩:=List.mem_map.mp hy
  rw[List.mem_range] at hr
  exact a r ∅
noncomputable def lp(m:Nat)(s:Nat×Nat):Nat->Nat×Nat
 |0=>s
 |n+1=>leap m (lp m s n).1 (lp m s n).2
theorem MW(m:Nat)(s:Nat×Nat):∀n,(lp m s n).2=s.2 / 32 ^ n
 |0=>by rw[Nat.pow_zero,Nat.div_one];rfl
 |n+1=>by
  show (lp m s n).2 / 32=_
  rw[MW m s n,Nat.div_div_eq_div_mul,pow_succ]
theorem Il(m:Nat)(s:Nat×Nat)(h:s.2<2 ^ 64):∀r,lp m s (13+r)=(itf (m+1) r (lp m s 13).1,0)
 |0=>by
  have:=MW m s 13
  rw[Nat.div_eq_of_lt (lt_of_lt_of_le h ⋯)] at this
  exact Prod.ext rfl this
 |r+1=>by
  show leap m (lp m s (13+r)).1 (lp m s (13+r)).2=_
  rw[Il m s h r]
  show ((itf (m+1) r (lp m s 13).1*5+1+0 / 32) % (m+1),0 / 32)=_
  rw[Nat.zero_div,Nat.add_zero]
  rfl
theorem BK{m k:Nat}(hm:m+1=2 ^ k){O:List Nat}(hc:O.length<=m)(s:Nat×Nat)(h:s.2<2 ^ 64):∃L,L<=13+O.length/\(lp m s L).1 ∉ O:=by
 obtain⟨r,h1,h2⟩:=KI (k:=k) (O:=O) (lp m s 13).1 ∅
 refine⟨13+r,∅,?_⟩
 rw[Il m s h,hm]
 exact h2
theorem JT(m i p:Nat):(leap m i p).1<=m:=by
 have:(i*5+1+p / 32) % (m+1)<m+1:=Nat.mod_lt _ (Nat.succ_pos m)
 show (i*5+1+p / 32) % (m+1)<=m
 omega
theorem Js(h:Int):bits h<2 ^ 64:=by
 unfold bits
 have:=Int.emod_lt_of_pos h (show (0:Int)<2 ^ 64 by decide)
 have:=Int.emod_nonneg h (show (2 ^ 64:Int)≠0 by decide)
 omega
noncomputable def adv(m:Nat)(p:Probe):Probe:=
 if p.more>0 then {p with j:=p.j+1,more:=p.more-1} else
 {p with j:=(leap m p.i p.perturb).1,more:=runEnd m (leap m p.i p.perturb).1-(leap m p.i p.perturb).1,i:=(leap m p.i p.perturb).1,perturb:=(leap m p.i p.perturb).2}
noncomputable def st(m:Nat)(s:Nat×Nat):Probe:={j:=s.1,more:=runEnd m s.1-s.1,i:=s.1,perturb:=s.2,dummy:=none}
noncomputable def sth(m:Nat)(h:Int):Probe:=st m (bits h % (m+1),bits h)
inductive Way(m:Nat)(O:Nat->Prop):Probe->Nat->Nat->Prop
 |here {p:Probe}:p.dummy=none->¬ O p.j->Way m O p 0 p.j
 |step {p:Probe} {n e:Nat}:p.dummy=none->O p.j->Way m O (adv m p) n e->Way m O p (n+1) e
inductive On(m:Nat)(O:Nat->Prop):Probe->Nat->Prop
 |here {p:Probe}:On m O p p.j
 |step {p:Probe} {j:Nat}:O p.j->On m O (adv m p) j->On m O p j
theorem On.mono{m:Nat}{O O':Nat->Prop}(s:∀j,O j->O' j){p:Probe}{j:Nat}(h:On m O p j):On m O' p j:=by
 induction h with
 |here=>exact .here
 |step a _ ih=>exact .step (s _ a) ih
theorem Way.on{m:Nat}{O:Nat->Prop}{p:Probe}{n e:Nat}(h:Way m O p n e):On m O p e/\¬ O e:=by
 induction h with
 |here _ a=>exact⟨.here,a⟩
 |step _ a _ ih=>exact⟨.step a ih.1,ih.2⟩
theorem Sh(m i:Nat):runEnd m i-i<=9:=by unfold runEnd;split<;>omega
theorem Ha{m i:Nat}(h:i<=m):runEnd m i<=m:=by unfold runEnd;split<;>omega
theorem Hk(m i:Nat):i<=runEnd m i:=by unfold runEnd;split<;>omega
theorem Way.le{m:Nat}{O:Nat->Prop}{p:Probe}{n e:Nat}(h:Way m O p n e):p.j+p.more<=m->e<=m:=by
 induction h with
 |here _ _=>omega
 |@step p n e _ a _ ih=>
  intro hp
  refine ih ?_
  unfold adv
  split
  ·show p.j+1+(p.more-1)<=m;omega
  ·show (leap m p.i p.perturb).1+(runEnd m (leap m p.i p.perturb).1-(leap m p.i p.perturb).1)<=m
   have h1:=JT m p.i p.perturb
   have:=Ha h1
   omega
theorem Jb{m:Nat}{O:Nat->Prop}{i pt n1 e1:Nat}(w:Way m O (st m (leap m i pt)) n1 e1):∀(more j:Nat),∃n e,Way m O {j:=j,more:=more,i:=i,perturb:=pt,dummy:=none} n e/\n<=more+1+n1
 |0,j=>by
  by_cases h:O j
  ·exact⟨n1+1,e1,.step rfl h w,∅⟩
  ·exact⟨0,j,.here rfl h,∅⟩
 |more+1,j=>by
  by_cases h:O j
  ·obtain⟨n,e,w1,hn⟩:=Jb w more (j+1)
   exact⟨n+1,e,.step rfl h w1,∅⟩
  ·exact⟨0,j,.here rfl h,∅⟩
theorem LL{m:Nat}{O:Nat->Prop}{s:Nat×Nat}{L:Nat}(hL:¬ O (lp m s L).1):∀d,d<=L->∃n e,Way m O (st m (lp m s (L-d))) n e/\n<=10*d
 |0,_=>⟨0,_,.here rfl hL,∅⟩
 |d+1,hd=>by
  obtain⟨n,e,w,hn⟩:=LL hL d ∅
  have e1:L-d=(L-(d+1))+1:=by omega
  rw[e1] at w
  obtain⟨n',e',w',hn'⟩:=Jb (i:=(lp m s (L-(d+1))).1) (pt:=(lp m s (L-(d+1))).2) w (runEnd m (lp m s (L-(d+1))).1-(lp m s (L-(d+1))).1) (lp m s (L-(d+1))).1
  have:=Sh m (lp m s (L-(d+1))).1
  exact⟨n',e',w',∅⟩
theorem LQ{m k:Nat}(hm:m+1=2 ^ k){O:List Nat}(hc:O.length<=m)(h:Int):∃n e,Way m (·∈O) (sth m h) n e/\n<=10*(13+O.length)/\e<=m:=by
 obtain⟨L,h1,h2⟩:=BK hm hc (bits h % (m+1),bits h) (Js h)
 obtain⟨n,e,w,hn⟩:=LL (O:=(·∈O)) h2 L (Nat.le_refl _)
 rw[Nat.sub_self] at w
 refine⟨n,e,w,∅,w.le ?_⟩
 have:=Ha (m:=m) (i:=bits h % (m+1)) (le_of_lt_succ (Nat.mod_lt _ (Nat.succ_pos m)))
 have:=Hk m (bits h % (m+1))
 show bits h % (m+1)+(runEnd m (bits h % (m+1))-bits h % (m+1))<=m
 omega
theorem yr{A B:List Nat}{j:Nat}(hA:∀a∈A,a<j)(hB:∀b∈B,j<=b):∀fuel lo hi,lo<=A.length->A.length<=hi->hi<=(A++B).length->hi-lo<=fuel->below.go (A++B).toArray j fuel lo hi=A.length
 |0,lo,hi,h1,h2,_,h4=>by show lo=_;omega
 |fuel+1,lo,hi,h1,h2,h3,h4=>by
  rw[below.go]
  by_cases c:lo<hi
  ·rw[if_pos c]
   have hmid:(lo+hi) / 2<(A++B).length:=by omega
   have hg:(A++B).toArray.getD ((lo+hi) / 2) j=(A++B)[(lo+hi) / 2]:=by rw[Array.getD];exact dif_pos (by rw[size_toArray];exact hmid)
   simp only[hg]
   by_cases d:(lo+hi) / 2<A.length
   ·have:(A++B)[(lo+hi) / 2]=A[(lo+hi) / 2]:=List.getElem_append_left d
    rw[this,if_pos (hA _ (getElem_mem d))]
    exact yr hA hB fuel _ _ ∅ h2 h3 ∅
   ·have:(A++B)[(lo+hi) / 2]=B[(lo+hi) / 2-A.length]'(by rw[length_append] at hmid;omega):=List.getElem_append_right ∅
    rw[this,if_neg (Nat.not_lt.mpr (hB _ (getElem_mem _)))]
    exact yr hA hB fuel _ _ h1 ∅ ∅ ∅
  ·rw[if_neg c]
   omega
theorem Mn{A B:List Nat}{j:Nat}(hA:∀a∈A,a<j)(hB:∀b∈B,j<=b):below (A++B).toArray j=A.length:=by
 unfold below
 refine yr hA hB _ _ _ (zero_le _) ?_ ?_ ?_
 ·rw[size_toArray,length_append];omega
 ·rw[size_toArray];exact Nat.le_refl _
 ·omega
theorem Bz{α:Type}(A B:List α)(x:α):insertAt (A++B).toArray A.length x=(A++x::B).toArray:=by
 unfold insertAt
 apply Array.ext'
 simp
end ST
namespace ST
open PySem PySem.SetTable
theorem On.inv{m:Nat}{O:Nat->Prop}{p:Probe}{j:Nat}(h:On m O p j):j=p.j\/(O p.j/\On m O (adv m p) j):=by
 cases h with
 |here=>exact .inl rfl
 |step a b=>exact .inr ⟨a,b⟩
section
variable {β:Type}
noncomputable abbrev Ln(β:Type):=List (Nat×Int×β)
noncomputable def Occ(L:Ln β)(j:Nat):Prop:=j∈L.map (·.1)
structure Tab(t:SetTable)(L:Ln β):Prop where
 place:t.place=(L.map (·.1)).toArray
 ris:L.Pairwise fun a b=>a.1<b.1
 le:∀x∈L,x.1<=t.mask
 dum:t.dummies = #[]
 two:∃k,t.mask+1=2 ^ k/\3<=k
 on:∀x∈L,On t.mask (Occ L) (sth t.mask x.2.1) x.1
theorem JE(j:Nat):has #[] j=false:=by
 have:below #[] j=0:=rfl
 unfold has
 rw[this]
 rfl
theorem E6{L:Ln β}(r:L.Pairwise fun a b=>a.1<b.1)(j:Nat):∃A B:Ln β,L=A++B/\(∀a∈A,a.1<j)/\∀b∈B,j<=b.1:=by
 induction L with
 |nil=>exact⟨[],[],rfl,fun _ h=>by simp at h,fun _ h=>by simp at h⟩
 |cons x L ih=>
  rw[List.pairwise_cons] at r
  by_cases h:x.1<j
  ·obtain⟨A,B,rfl,h1,h2⟩:=ih r.2
   refine⟨x::A,B,rfl,fun a ha=>?_,h2⟩
   rcases List.mem_cons.mp ha with rfl|ha
   ·exact h
   ·exact h1 a ha
  ·refine⟨[],x::L,rfl,fun _ h=>by simp at h,fun b hb=>?_⟩
   rcases List.mem_cons.mp hb with rfl|hb
   ·omega
   ·have:=r.1 b hb;omega
theorem Tab.below{t:SetTable}{A B:Ln β}(T:Tab t (A++B)){j:Nat}(h1:∀a∈A,a.1<j)(h2:∀b∈B,j<=b.1):SetTable.below t.place j=A.length:=by
 rw[T.place,map_append]
 rw[Mn (j:=j) (fun a ha=>by obtain⟨x,hx,rfl⟩:=List.mem_map.mp ha;exact h1 x hx) (fun b hb=>by obtain⟨x,hx,rfl⟩:=List.mem_map.mp hb;exact h2 x hx),length_map]
theorem Tab.J6{t:SetTable}{L:Ln β}(T:Tab t L){j:Nat}(h:¬ Occ L j):t.slot j = .empty:=by
 obtain⟨A,B,rfl,h1,h2⟩:=E6 T.ris j
 unfold slot
 rw[T.below h1 h2,T.dum,JE]
 have:(t.place[A.length]?==some j)=false:=by
  rw[T.place]
  cases B with
  |nil=>simp
  |cons b B=>
   simp only[map_append,map_cons,List.getElem?_toArray]
   rw[getElem?_append_right (by simp),length_map,Nat.sub_self]
   have:b.1≠j:=fun z=>h (by unfold Occ;rw[<- z];simp)
   simp[this]
 rw[if_neg (by rw[this];decide)]
 rfl
theorem IU{A B:Ln β}{x:Nat×Int×β}(r:(A++x::B).Pairwise fun a b=>a.1<b.1):(∀a∈A,a.1<x.1)/\∀b∈B,x.1<b.1:=by
 rw[List.pairwise_append,List.pairwise_cons] at r
 exact⟨fun a ha=>r.2.2 a ha x (mem_cons_self ..),fun b hb=>r.2.1.1 b hb⟩
theorem Tab.Kd{t:SetTable}{A B:Ln β}{x:Nat×Int×β}(T:Tab t (A++x::B)):t.slot x.1 = .live A.length:=by
 obtain⟨h1,h2⟩:=IU T.ris
 unfold slot
 rw[T.below h1 (fun b hb=>by rcases List.mem_cons.mp hb with rfl|hb;exact Nat.le_refl _;exact Nat.le_of_lt (h2 b hb))]
 have:(t.place[A.length]?==some x.1)=true:=by
  rw[T.place]
  simp
 rw[if_pos this]
theorem Tab.OQ{t:SetTable}{L:Ln β}(T:Tab t L){j:Nat}(h:Occ L j):∃i x,t.slot j = .live i/\L[i]? = some (j,x):=by
 obtain⟨⟨j',x⟩,hx,rfl⟩:=List.mem_map.mp h
 obtain⟨A,B,rfl⟩:=List.append_of_mem hx
 exact⟨A.length,x,T.Kd,by simp⟩
theorem Tab.uniq{t:SetTable}{L:Ln β}(T:Tab t L){j:Nat}{x y:Int×β}(h1:(j,x)∈L)(h2:(j,y)∈L):x=y:=by
 obtain⟨A,B,rfl⟩:=List.append_of_mem h1
 obtain⟨a1,a2⟩:=IU T.ris
 rcases List.mem_append.mp h2 with h|h
 ·exact absurd (a1 _ h) (lt_irrefl _)
 ·rcases List.mem_cons.mp h with h|h
  ·cases h;rfl
  ·exact absurd (a2 _ h) (lt_irrefl _)
noncomputable def hashOf(L:Ln β)(i:Nat):Int:=(L[i]?.map (·.2.1)).getD 0
theorem MK{t:SetTable}{L:Ln β}(T:Tab t L){hashAt:Nat->Int}(hh:∀i,i<L.length->hashAt i=hashOf L i)(h:Int) :
  ∀(n:Nat) (p:Probe) (e fuel:Nat),Way t.mask (Occ L) p n e->n<fuel ->
   (probe.go t hashAt h fuel p=some (.empty e none)/\∀x∈L,x.2.1=h->¬ On t.mask (Occ L) p x.1) \/
   (∃i x next n',probe.go t hashAt h fuel p=some (.candidate x.1 i next)/\L[i]? = some x/\t.slot x.1 = .live i/\x.2.1=h/\n'<n/\Way t.mask (Occ L) next n' e /\
    ∀y∈L,y.2.1=h->On t.mask (Occ L) p y.1->y=x\/On t.mask (Occ L) next y.1):=by
 intro n
 induction n with
 |zero=>
  intro p e fuel w hf
  cases w with
  |here hd ho=>
   obtain⟨f,rfl⟩:∃f,fuel=f+1:=⟨fuel-1,∅⟩
   left
   refine⟨?_,fun x hx _ hon=>?_⟩
   ·rw[probe.go,T.J6 ho,hd]
   ·rcases hon.inv with z|⟨a,_⟩
    ·exact ho (List.mem_map.mpr ⟨x,hx,z⟩)
    ·exact ho a
 |succ n ih=>
  intro p e fuel w hf
  obtain⟨f,rfl⟩:∃f,fuel=f+1:=⟨fuel-1,∅⟩
  cases w with
  |step hd ho w=>
   obtain⟨i,x,h1,h2⟩:=T.OQ ho
   have hlt:i<L.length:=by
    rcases lt_or_ge i L.length with z|z
    ·exact z
    ·rw[getElem?_eq_none z] at h2;cases h2
   have eh:hashAt i=x.1:=by rw[hh i hlt,hashOf,h2];rfl
   by_cases c:x.1=h
   ·right
    refine⟨i,(p.j,x),adv t.mask p,n,?_,h2,h1,c,Nat.lt_succ_self n,w,fun y hy _ hon=>?_⟩
    ·rw[probe.go,h1]
     show (if (hashAt i==h)=true then _ else _)=_
     rw[if_pos (by rw[eh,c];exact beq_self_eq_true h)]
     rfl
    ·rcases hon.inv with z|⟨_,b⟩
     ·left
      obtain⟨y1,y2⟩:=y
      cases z
      rw[T.uniq hy (mem_of_getElem? h2)]
     ·exact .inr b
   ·have e1:probe.go t hashAt h (f+1) p=probe.go t hashAt h f (adv t.mask p):=by
     rw[probe.go,h1]
     show (if (hashAt i==h)=true then _ else _)=_
     rw[if_neg (by rw[eh];simpa using c)]
     rfl
    have on_next:∀y∈L,y.2.1=h->On t.mask (Occ L) p y.1->On t.mask (Occ L) (adv t.mask p) y.1:=fun y hy ey hon=>by
     rcases hon.inv with z|⟨_,b⟩
     ·obtain⟨y1,y2⟩:=y
      cases z
      rw[T.uniq hy (mem_of_getElem? h2)] at ey
      exact absurd ey c
     ·exact b
    rw[e1]
    rcases ih (adv t.mask p) e f w ∅ with ⟨a,b⟩|⟨i',x',next,n',a1,a2,a3,a4,a5,a6,a7⟩
    ·exact .inl ⟨a,fun y hy ey hon=>b y hy ey (on_next y hy ey hon)⟩
    ·exact .inr ⟨i',x',next,n',a1,a2,a3,a4,∅,a6,fun y hy ey hon=>a7 y hy ey (on_next y hy ey hon)⟩
theorem Tab.fill{t:SetTable}{L:Ln β}(T:Tab t L):t.fill=L.length:=by
 unfold SetTable.fill
 rw[T.place,T.dum,size_toArray,length_map]
 rfl
theorem Tab.odd{t:SetTable}{L:Ln β}(T:Tab t L):t.mask % 2=1:=by
 obtain⟨k,h1,h2⟩:=T.two
 obtain⟨q,rfl⟩:∃q,k=q+1:=⟨k-1,∅⟩
 rw[pow_succ] at h1
 omega
theorem Tab.way{t:SetTable}{L:Ln β}(T:Tab t L)(hc:L.length<=t.mask)(h:Int):∃n e,Way t.mask (Occ L) (sth t.mask h) n e/\n<=10*(13+L.length)/\e<=t.mask:=by
 obtain⟨k,h1,h2⟩:=T.two
 have:=LQ h1 (O:=L.map (·.1)) (by rw[length_map];exact hc) h
 rw[length_map] at this
 exact this
theorem Tab.put{t:SetTable}{L:Ln β}(T:Tab t L){n e:Nat}{h:Int}{y:β}(w:Way t.mask (Occ L) (sth t.mask h) n e)(he:e<=t.mask) :
  ∃A B,L=A++B/\(t.put e).2=A.length/\Tab (t.put e).1 (A++(e,h,y)::B):=by
 obtain⟨A,B,rfl,h1,h2⟩:=E6 T.ris e
 have hb:=T.below h1 h2
 obtain⟨won,wno⟩:=w.on
 have h2':∀b∈B,e<b.1:=fun b hb=>by
  have:=h2 b hb
  have:b.1≠e:=fun z=>wno (List.mem_map.mpr ⟨b,mem_append_right _ hb,z⟩)
  omega
 have hp:(t.put e).1={t with place:=insertAt t.place A.length e}:=by
  unfold SetTable.put
  rw[hb]
  show {t with place:=insertAt t.place A.length e,dummies:=if has t.dummies e=true then eraseAt t.dummies (SetTable.below t.dummies e) else t.dummies} = _
  rw[T.dum,JE]
  rfl
 have oc:∀j,Occ (A++B) j->Occ (A++(e,h,y)::B) j:=fun j hj=>by
  unfold Occ at hj ⊢
  rw[map_append,mem_append] at hj
  rw[map_append,mem_append,map_cons,mem_cons]
  rcases hj with z|z
  ·exact .inl z
  ·exact .inr (.inr z)
 refine⟨A,B,rfl,hb,?_⟩
 rw[hp]
 exact {
  place:=by
   show insertAt t.place A.length e=_
   rw[T.place,map_append]
   have:=Bz (A.map (·.1)) (B.map (·.1)) e
   rw[length_map] at this
   rw[this,map_append]
   rfl
  ris:=by
   have r:=T.ris
   rw[List.pairwise_append] at r ⊢
   refine⟨r.1,List.pairwise_cons.mpr ⟨fun b hb=>h2' b hb,r.2.1⟩,fun a ha b hb=>?_⟩
   rcases List.mem_cons.mp hb with rfl|hb
   ·exact h1 a ha
   ·exact r.2.2 a ha b hb
  le:=fun x hx=>by
   rcases List.mem_append.mp hx with z|z
   ·exact T.le x (mem_append_left _ z)
   ·rcases List.mem_cons.mp z with rfl|z
    ·exact he
    ·exact T.le x (mem_append_right _ z)
  dum:=T.dum
  two:=T.two
  on:=fun x hx=>by
   rcases List.mem_append.mp hx with z|z
   ·exact (T.on x (mem_append_left _ z)).mono oc
   ·rcases List.mem_cons.mp z with rfl|z
    ·exact won.mono oc
    ·exact (T.on x (mem_append_right _ z)).mono oc}
end
end ST
namespace ST
open PySem PySem.SetTable
theorem Ls{m:Nat}{O:Nat->Prop}{i pt:Nat}:∀(k more j:Nat),k<=more->(∀q,q<k->O (j+q))->On m O {j:=j,more:=more,i:=i,perturb:=pt,dummy:=none} (j+k)
 |0,more,j,_,_=>.here
 |k+1,more,j,hk,ho=>by
  have hm:more>0:=by omega
  refine .step (ho 0 ∅) ?_
  have:adv m {j:=j,more:=more,i:=i,perturb:=pt,dummy:=none} = {j:=j+1,more:=more-1,i:=i,perturb:=pt,dummy:=none}:=by
   unfold adv;exact if_pos hm
  rw[this]
  have e:j+(k+1)=j+1+k:=by omega
  rw[e]
  exact Ls k (more-1) (j+1) ∅ fun q hq=>by
   have:=ho (q+1) ∅
   have e:j+1+q=j+(q+1):=by omega
   rw[e];exact this
theorem yj{m:Nat}{O:Nat->Prop}{i pt e:Nat}(w:On m O (st m (leap m i pt)) e):∀(more j:Nat),(∀q,q<=more->O (j+q))->On m O {j:=j,more:=more,i:=i,perturb:=pt,dummy:=none} e
 |0,j,ho=>.step (ho 0 (Nat.le_refl _)) w
 |more+1,j,ho=>by
  refine .step (ho 0 ∅) ?_
  exact yj w more (j+1) fun q hq=>by
   have:=ho (q+1) ∅
   have e:j+1+q=j+(q+1):=by omega
   rw[e];exact this
theorem Qi{m:Nat}{s:Nat×Nat}(h:s.1<=m):∀n,(lp m s n).1<=m
 |0=>h
 |n+1=>JT m _ _
theorem Po{m:Nat}{owner:Array (Option Nat)}{js:List Nat}(ho:∀j,j<=m->((owner.getD j (some 0)).isNone=true↔j ∉ js)){s:Nat×Nat}(hs:s.1<=m){L:Nat}(hL:(lp m s L).1 ∉ js) :
  ∀(d fuel:Nat),d<fuel->d<=L->∃e,layClean.free m owner fuel (lp m s (L-d)).1 (lp m s (L-d)).2=some e/\On m (·∈js) (st m (lp m s (L-d))) e/\e ∉ js/\e<=m:=by
 intro d
 induction d with
 |zero=>
  intro fuel hf hd
  obtain⟨f,rfl⟩:∃f,fuel=f+1:=⟨fuel-1,∅⟩
  have hi:=Qi hs L
  rw[layClean.free]
  have hr:=Hk m (lp m s L).1
  have e1:(List.range (runEnd m (lp m s L).1+1-(lp m s L).1)).find? (fun k=>(owner.getD ((lp m s L).1+k) (some 0)).isNone)=some 0:=by
   rw[List.find?_range_eq_some]
   exact⟨(ho _ hi).mpr hL,List.mem_range.mpr ∅,fun j hj=>absurd hj (not_lt_zero j)⟩
  rw[Nat.sub_zero,e1]
  exact⟨_,rfl,.here,hL,hi⟩
 |succ d ih=>
  intro fuel hf hd
  obtain⟨f,rfl⟩:∃f,fuel=f+1:=⟨fuel-1,∅⟩
  have hi:=Qi hs (L-(d+1))
  obtain⟨e,a1,a2,a3,a4⟩:=ih f ∅ ∅
  have e1:L-d=(L-(d+1))+1:=by omega
  rw[e1] at a1 a2
  have hr:=Hk m (lp m s (L-(d+1))).1
  have hin:=Ha hi
  rw[layClean.free]
  cases q:(List.range (runEnd m (lp m s (L-(d+1))).1+1-(lp m s (L-(d+1))).1)).find? (fun k=>(owner.getD ((lp m s (L-(d+1))).1+k) (some 0)).isNone) with
  |some k=>
   rw[List.find?_range_eq_some] at q
   obtain⟨q1,q2,q3⟩:=q
   rw[List.mem_range] at q2
   refine⟨_,rfl,Ls k _ _ ∅ fun z hz=>?_,(ho _ ∅).mp q1,∅⟩
   have h1:=q3 z hz
   have h2:=ho ((lp m s (L-(d+1))).1+z) ∅
   rw[Bool.not_eq_true'] at h1
   exact Classical.byContradiction fun w=>by rw[h2.mpr w] at h1;cases h1
  |none=>
   rw[List.find?_eq_none] at q
   refine⟨e,a1,yj a2 _ _ fun z hz=>?_,a3,a4⟩
   have h1:=q z (List.mem_range.mpr ∅)
   have h2:=ho ((lp m s (L-(d+1))).1+z) ∅
   exact Classical.byContradiction fun w=>h1 (h2.mpr w)
structure Own(m:Nat)(owner:Array (Option Nat))(js:List Nat)(hs:List Int):Prop where
 size:owner.size=m+1
 len:js.length=hs.length
 nd:js.Nodup
 le:∀j∈js,j<=m
 is:∀j i,owner.getD j none=some i↔js[i]? = some j
 on:∀(i j:Nat) (h:Int),js[i]? = some j->hs[i]? = some h->On m (·∈js) (sth m h) j
theorem Own.none{m:Nat}{owner:Array (Option Nat)}{js:List Nat}{hs:List Int}(w:Own m owner js hs){j:Nat}(hj:j<=m):(owner.getD j (some 0)).isNone=true↔j ∉ js:=by
 have hj':j<owner.size:=by rw[w.size];omega
 have e:owner.getD j (some 0)=owner.getD j .none:=by unfold Array.getD;rw[dif_pos hj',dif_pos hj']
 rw[e]
 constructor
 ·intro h z
  obtain⟨i,hi,rfl⟩:=List.getElem_of_mem z
  have:=(w.is js[i] i).mpr (getElem?_eq_getElem hi)
  rw[this] at h
  cases h
 ·intro h
  cases q:owner.getD j .none with
  |none=>rfl
  |some i=>exact absurd (mem_of_getElem? ((w.is j i).mp q)) h
noncomputable def fld(m:Nat)(acc:Option (Array (Option Nat)×Nat))(h:Int):Option (Array (Option Nat)×Nat):=do
  let (owner,k) <- acc
  let j <- layClean.free m owner (turns m) (bits h % (m+1)) (bits h)
  pure (owner.setIfInBounds j (some k),k+1)
theorem Nm{m k:Nat}(hm:m+1=2 ^ k){owner:Array (Option Nat)}{js:List Nat}{hs:List Int}(w:Own m owner js hs)(hc:js.length<m)(h:Int) :
  ∃e,fld m (some (owner,js.length)) h=some (owner.setIfInBounds e (some js.length),js.length+1)/\Own m (owner.setIfInBounds e (some js.length)) (js++[e]) (hs++[h]):=by
 have hb:bits h % (m+1)<=m:=le_of_lt_succ (Nat.mod_lt _ (Nat.succ_pos m))
 obtain⟨L,h1,h2⟩:=BK hm (O:=js) ∅ (bits h % (m+1),bits h) (Js h)
 obtain⟨e,a1,a2,a3,a4⟩:=Po (fun j hj=>w.none hj) (s:=(bits h % (m+1),bits h)) hb h2 L (turns m) (by unfold turns;omega) (Nat.le_refl _)
 rw[Nat.sub_self] at a1 a2
 have he:e<owner.size:=by rw[w.size];omega
 refine⟨e,?_,?_⟩
 ·unfold fld
  show (do let j <- layClean.free m owner (turns m) (bits h % (m+1)) (bits h);pure (owner.setIfInBounds j (some js.length),js.length+1))=_
  have a1':layClean.free m owner (turns m) (bits h % (m+1)) (bits h)=some e:=a1
  rw[a1']
  rfl
 ·have sub:∀j,j∈js->j∈js++[e]:=fun j hj=>mem_append_left _ hj
  have gd:∀j,(owner.setIfInBounds e (some js.length)).getD j none=if j=e then some js.length else owner.getD j none:=fun j=>by
   rw[Array.getD_eq_getD_getElem?,Array.getD_eq_getD_getElem?,Array.getElem?_setIfInBounds]
   by_cases c:e=j
   ·rw[if_pos c,if_pos c.symm,if_pos he];rfl
   ·rw[if_neg c,if_neg (fun z=>c z.symm)]
  exact {
   size:=by rw[Array.size_setIfInBounds];exact w.size
   len:=by rw[length_append,length_append,w.len];rfl
   nd:=by
    rw[List.nodup_append]
    refine⟨w.nd,List.pairwise_singleton _ _,fun a ha b hb z=>?_⟩
    rw[mem_singleton] at hb
    subst hb;subst z;exact a3 ha
   le:=fun j hj=>by
    rcases List.mem_append.mp hj with z|z
    ·exact w.le j z
    ·rw[mem_singleton] at z;omega
   is:=fun j i=>by
    rw[gd]
    by_cases c:j=e
    ·subst c
     rw[if_pos rfl]
     constructor
     ·intro z;cases z
      rw[getElem?_append_right (Nat.le_refl _),Nat.sub_self];rfl
     ·intro z
      rcases lt_or_ge i js.length with y|y
      ·rw[getElem?_append_left y] at z
       exact absurd (mem_of_getElem? z) a3
      ·rw[getElem?_append_right y] at z
       cases d:i-js.length with
       |zero=>congr 1;omega
       |succ n=>rw[d] at z;simp at z
    ·rw[if_neg c,w.is]
     rcases lt_or_ge i js.length with y|y
     ·rw[getElem?_append_left y]
     ·rw[getElem?_append_right y,getElem?_eq_none y]
      constructor
      ·intro z;cases z
      ·intro z
       cases d:i-js.length with
       |zero=>rw[d] at z;simp at z;exact absurd z.symm c
       |succ n=>rw[d] at z;simp at z
   on:=fun i j h' z1 z2=>by
    rcases lt_or_ge i js.length with y|y
    ·rw[getElem?_append_left y] at z1
     rw[getElem?_append_left (by rw[<- w.len];exact y)] at z2
     exact (w.on i j h' z1 z2).mono sub
    ·rw[getElem?_append_right y] at z1
     rw[getElem?_append_right (by rw[<- w.len];exact y),<- w.len] at z2
     cases d:i-js.length with
     |zero=>
      rw[d] at z1 z2
      simp at z1 z2
      subst z1;subst z2
      exact a2.mono sub
     |succ n=>rw[d] at z1;simp at z1}
theorem Iz{m k:Nat}(hm:m+1=2 ^ k):∀(rest:List Int) (owner:Array (Option Nat)) (js:List Nat) (hs:List Int),Own m owner js hs->js.length+rest.length<=m ->
  ∃owner' js',rest.foldl (fld m) (some (owner,js.length))=some (owner',js'.length)/\Own m owner' js' (hs++rest)
 |[],owner,js,hs,w,_=>⟨owner,js,rfl,by rw[append_nil];exact w⟩
 |h::rest,owner,js,hs,w,hc=>by
  rw[length_cons] at hc
  obtain⟨e,a1,a2⟩:=Nm hm w ∅ h
  obtain⟨owner',js',b1,b2⟩:=Iz hm rest _ _ _ a2 (by rw[length_append,List.length_singleton];omega)
  refine⟨owner',js',?_,by rw[append_assoc] at b2;exact b2⟩
  rw[List.foldl_cons,a1]
  rw[length_append,List.length_singleton] at b1
  exact b1
theorem J7(m:Nat):Own m (Array.replicate (m+1) none) [] [] where
 size:=Array.size_replicate
 len:=rfl
 nd:=List.Pairwise.nil
 le:=fun _ h=>by simp at h
 is:=fun j i=>by
  rw[Array.getD_eq_getD_getElem?,Array.getElem?_replicate]
  constructor
  ·intro z;split at z<;>cases z
  ·intro z;simp at z
 on:=fun i j h z _=>by simp at z
theorem Fu{m k:Nat}(hm:m+1=2 ^ k)(hs:List Int)(hc:hs.length<=m):∃owner js,layClean m hs.toArray=some owner/\Own m owner js hs:=by
 obtain⟨owner,js,h1,h2⟩:=Iz hm hs _ _ _ (J7 m) (by rw[length_nil,Nat.zero_add];exact hc)
 refine⟨owner,js,?_,h2⟩
 have h1':hs.foldl (fld m) (some (Array.replicate (m+1) none,0))=some (owner,js.length):=h1
 unfold layClean
 rw[List.foldl_toArray]
 show Option.map (·.1) (hs.foldl (fld m) (some (Array.replicate (m+1) none,0)))=_
 rw[h1']
 rfl
section
variable {β:Type}
theorem Lo{D:List (Int×β)}:∀(l:List (Nat×Nat)),(∀q∈l,q.2<D.length)->(l.filterMap fun q=>(D[q.2]?).map fun x=>(q.1,x)).map (·.1)=l.map (·.1) /\
  (l.filterMap fun q=>(D[q.2]?).map fun x=>(q.1,x)).map (·.2)=(l.map (·.2)).filterMap (D[·]?)
 |[],_=>⟨rfl,rfl⟩
 |q::l,h=>by
  obtain⟨h1,h2⟩:=Lo l fun q hq=>h q (mem_cons_of_mem _ hq)
  have hq:=h q (mem_cons_self ..)
  have e:D[q.2]? = some D[q.2]:=getElem?_eq_getElem hq
  constructor
  ·rw[List.filterMap_cons_some (b:=(q.1,D[q.2])) (by rw[e];rfl),map_cons,map_cons,h1]
  ·rw[List.filterMap_cons_some (b:=(q.1,D[q.2])) (by rw[e];rfl),map_cons,map_cons,h2,List.filterMap_cons_some e]
theorem Oy{m k:Nat}(hm:m+1=2 ^ k)(hk:3<=k)(D:List (Int×β))(hc:D.length<=m)(fi mo:Nat)(led pl:Bool) :
  ∃(t:SetTable) (order:Array Nat) (L:Ln β),laid m fi mo led pl (D.toArray.map (·.1))=some (t,order)/\order.filterMap (D.toArray[·]?)=(L.map (·.2)).toArray/\Tab t L/\L.length=D.length/\(∀x,x∈L.map (·.2)↔x∈D)/\t.mask=m/\t.led=led/\t.plain=pl:=by
 obtain⟨owner,js,h1,w⟩:=Fu hm (D.map (·.1)) (by rw[length_map];exact hc)
 have lj:js.length=D.length:=by rw[w.len,length_map]
 let live:=(List.range (m+1)).filterMap fun j=>(owner.getD j none).map (j,·)
 have mem_live:∀j i,(j,i)∈live↔js[i]? = some j:=fun j i=>by
  rw[List.mem_filterMap]
  constructor
  ·rintro ⟨a,_,e⟩
   cases q:owner.getD a none with
   |none=>rw[q] at e;cases e
   |some b=>rw[q] at e;cases e;exact (w.is _ _).mp q
  ·intro z
   refine⟨j,List.mem_range.mpr (Nat.lt_succ_of_le (w.le j (mem_of_getElem? z))),?_⟩
   rw[(w.is j i).mpr z]
   rfl
 have lt_live:∀q∈live,q.2<D.length:=fun q hq=>by
  have:=(mem_live q.1 q.2).mp hq
  rcases lt_or_ge q.2 js.length with z|z
  ·omega
  ·rw[getElem?_eq_none z] at this;cases this
 have ris_live:(live.map (·.1)).Pairwise (· < ·):=by
  refine List.pairwise_map.mpr (List.Pairwise.filterMap _ (fun a b hab x hx y hy=>?_) List.pairwise_lt_range)
  cases qa:owner.getD a none with
  |none=>rw[qa] at hx;cases hx
  |some i=>
   cases qb:owner.getD b none with
   |none=>rw[qb] at hy;cases hy
   |some i'=>rw[qa] at hx;rw[qb] at hy;cases hx;cases hy;exact hab
 have len_live:live.length=js.length:=by
  refine Nat.le_antisymm ?_ ?_
  ·have nd:(live.map fun q=>q.1).Nodup:=by
    unfold List.Nodup
    exact ris_live.imp fun {a b} (h:a<b)=>ne_of_lt h
   have:=pig _ js nd fun x hx=>by
    obtain⟨q,hq,rfl⟩:=List.mem_map.mp hx
    exact mem_of_getElem? ((mem_live q.1 q.2).mp hq)
   rw[length_map] at this
   exact this
  ·have:=pig js (live.map (·.1)) w.nd fun x hx=>by
    obtain⟨i,hi,rfl⟩:=List.getElem_of_mem hx
    exact List.mem_map.mpr ⟨(js[i],i),(mem_live _ _).mpr (getElem?_eq_getElem hi),rfl⟩
   rw[length_map] at this
   exact this
 let L:Ln β:=live.filterMap fun q=>(D[q.2]?).map fun x=>(q.1,x)
 obtain⟨f1,f2⟩:=Lo (D:=D) live lt_live
 have f1:L.map (·.1)=live.map (·.1):=f1
 have f2:L.map (·.2)=(live.map (·.2)).filterMap (D[·]?):=f2
 have mem_L:∀j x,(j,x)∈L↔∃i,js[i]? = some j/\D[i]? = some x:=fun j x=>by
  rw[List.mem_filterMap]
  constructor
  ·rintro ⟨q,hq,e⟩
   cases z:D[q.2]? with
   |none=>rw[z] at e;cases e
   |some y=>rw[z] at e;cases e;exact⟨q.2,(mem_live _ _).mp hq,z⟩
  ·rintro ⟨i,h1,h2⟩
   exact⟨(j,i),(mem_live j i).mpr h1,by rw[h2];rfl⟩
 have occ:∀j,j∈js->Occ L j:=fun j hj=>by
  unfold Occ
  rw[f1]
  obtain⟨i,hi,rfl⟩:=List.getElem_of_mem hj
  exact List.mem_map.mpr ⟨(js[i],i),(mem_live _ _).mpr (getElem?_eq_getElem hi),rfl⟩
 refine⟨{mask:=m,place:=(live.map (·.1)).toArray,dummies:=#[],finger:=fi,led:=led,moves:=mo,plain:=pl},(live.map (·.2)).toArray,L,?_,?_,?_,?_,?_,rfl,rfl,rfl⟩
 ·unfold laid
  have e:(D.toArray.map (·.1))=(D.map (·.1)).toArray:=by simp
  rw[e,h1]
  rfl
 ·rw[f2]
  simp
 ·exact {
   place:=by rw[f1]
   ris:=by
    have:=ris_live
    rw[<- f1] at this
    exact List.pairwise_map.mp this
   le:=fun x hx=>by
    obtain⟨i,h1,_⟩:=(mem_L x.1 x.2).mp hx
    exact w.le _ (mem_of_getElem? h1)
   dum:=rfl
   two:=⟨k,hm,hk⟩
   on:=fun x hx=>by
    obtain⟨i,h1,h2⟩:=(mem_L x.1 x.2).mp hx
    exact (w.on i x.1 x.2.1 h1 (by rw[getElem?_map,h2];rfl)).mono occ}
 ·rw[<- lj,<- len_live,<- length_map (f:=(·.1)) (as:=L),f1,length_map]
 ·intro x
  rw[mem_map]
  constructor
  ·rintro ⟨⟨j,y⟩,hy,rfl⟩
   obtain⟨i,_,h2⟩:=(mem_L j y).mp hy
   exact mem_of_getElem? h2
  ·intro hx
   obtain⟨i,hi,rfl⟩:=List.getElem_of_mem hx
   have hij:i<js.length:=by omega
   exact⟨(js[i],D[i]),(mem_L _ _).mpr ⟨i,getElem?_eq_getElem hij,getElem?_eq_getElem hi⟩,rfl⟩
end
theorem Jc(n:Nat):∀(fuel k:Nat),∃q,sizeAbove.go n fuel (2 ^ k)=2 ^ q/\k<=q/\(n<2 ^ (k+fuel)->n<2 ^ q)/\(2 ^ q=2 ^ k\/2 ^ q<=2*n)
 |0,k=>⟨k,rfl,Nat.le_refl _,fun h=>h,.inl rfl⟩
 |fuel+1,k=>by
  rw[sizeAbove.go]
  by_cases c:2 ^ k<=n
  ·rw[if_pos c]
   obtain⟨q,h1,h2,h3,h4⟩:=Jc n fuel (k+1)
   rw[<- pow_succ]
   refine⟨q,h1,∅,fun h=>h3 (by rw[Nat.add_assoc,Nat.add_comm 1 fuel];exact h),.inr ?_⟩
   rcases h4 with h4|h4
   ·rw[h4,pow_succ];omega
   ·exact h4
  ·rw[if_neg c]
   exact⟨k,rfl,Nat.le_refl _,fun _=>by omega,.inl rfl⟩
theorem Pn(n:Nat)(h:n<2 ^ 60):∃k,sizeAbove n=2 ^ k/\3<=k/\n<2 ^ k/\(2 ^ k=8\/2 ^ k<=2*n):=by
 obtain⟨q,h1,h2,h3,h4⟩:=Jc n 64 3
 exact⟨q,h1,h2,h3 (lt_of_lt_of_le h (Nat.pow_le_pow_right ⋯ ⋯)),h4⟩
end ST
set_option maxHeartbeats 1000000
namespace ST
open PySem PySem.SetTable
section
variable {prog:Program}{w:World}{K:Type}[DecidableEq K]{knd:KeyKind prog w K}
variable {A:Around}{E:Value->Shared->Prop}{s:Shared}
theorem Fi{ks:List K}{a:Addr}{Q:Bool->Shared->Prop}(hk:IsTupleKey knd s.heap ks a)(h:Q false s):wpAny (model prog w) A (ofAClassStatement 8 (.ref a)) Q E s:=by
 have hT:=hk.typeIs
 obtain⟨o,items,n,ho,_,hd,hi⟩:=hk
 unfold ofAClassStatement
 refine wpAny_bind (wpAny_typeOf hT ?_)
 dsimp only
 rw[if_pos ⋯]
 refine wpAny_bind (wpAny_pure ?_)
 simp only[Bool.not_true,false_eq_true,if_false]
 refine wpAny_bind (wpAny_seqItems ho hd ?_)
 refine wpAny_bind ?_
 show wpAny _ _ (forIn items _ _) _ _ s
 rw[<- Array.forIn_toList]
 refine wpAny_forIn_list _ (fun rest r s'=>r.1=none/\s'=s/\∀v∈rest,carriedByValue v=true) _ ?_ ?_ _ _ ⟨rfl,rfl,hi.byValue⟩
 ·rintro v rest r s' ⟨hr,rfl,hall⟩
  have e:ofAClassStatement 7 v=pure false:=by
   have:=hall v mem_cons_self
   cases v with
   |ref a=>simp[carriedByValue] at this
   |_=>first|rfl|simp[ofAClassStatement]|(unfold ofAClassStatement;rfl)
  rw[e]
  refine wpAny_bind (wpAny_pure ?_)
  simp only[false_eq_true,if_false]
  exact wpAny_pure ⟨rfl,rfl,fun u hu'=>hall u (mem_cons_of_mem _ hu')⟩
 ·rintro ⟨r1,r2⟩ s' ⟨hr,rfl,_⟩
  simp only at hr
  subst hr
  exact wpAny_pure h
theorem Mk{k:List K}{q:Addr}(hk:IsTupleKey knd s.heap k q)(stored:List Value)(hs:∀v∈stored,∃k' q',v = .ref q'/\IsTupleKey knd s.heap k' q'){Q:Bool->Shared->Prop}(h:Q false s) :
  wpAny (model prog w) A (searchCouldBeSeen (.ref q) stored) Q E s:=by
 unfold searchCouldBeSeen
 refine wpAny_bind ?_
 refine wpAny_forIn_list _ (fun rest r s'=>r.1=none/\s'=s/\∀v∈rest,∃k' q',v = .ref q'/\IsTupleKey knd s.heap k' q') _ ?_ ?_ _ _ ⟨rfl,rfl,hs⟩
 ·rintro v rest r s' ⟨hr,rfl,hall⟩
  obtain⟨k',q',rfl,hk'⟩:=hall v mem_cons_self
  have up:∀v∈rest,∃k' q',v = .ref q'/\IsTupleKey knd s'.heap k' q':=fun u hu'=>hall u (mem_cons_of_mem _ hu')
  dsimp only
  split
  ·exact wpAny_pure ⟨rfl,rfl,up⟩
  ·refine wpAny_bind (wpAny_eqIsQuiet_tuple hk ?_)
   simp only[Bool.not_true,false_eq_true,if_false]
   refine wpAny_bind (wpAny_eqIsQuiet_tuple hk' ?_)
   simp only[Bool.not_true,false_eq_true,if_false]
   refine wpAny_bind (Fi hk ?_)
   simp only[false_eq_true,if_false]
   refine wpAny_bind (Fi hk' ?_)
   simp only[false_eq_true,if_false]
   exact wpAny_pure ⟨rfl,rfl,up⟩
 ·rintro ⟨r1,r2⟩ s' ⟨hr,rfl,_⟩
  simp only at hr
  subst hr
  exact wpAny_pure h
noncomputable def Ent(knd:KeyKind prog w K)(h:Heap)(x:Nat×Int×Value)(k:List K):Prop:=∃q,x.2.2 = .ref q/\IsTupleKey knd h k q/\x.2.1=tupleKeyHash knd k
theorem Ent.inj{h:Heap}{x:Nat×Int×Value}{k k':List K}(a:Ent knd h x k)(b:Ent knd h x k'):k=k':=by
 obtain⟨q,a1,a2,_⟩:=a
 obtain⟨q',b1,b2,_⟩:=b
 rw[a1] at b1;cases b1
 exact a2.inj b2
theorem fits_of{t:SetTable}{L:Ln Value}(T:Tab t L)(hc:L.length<=t.mask):t.fits (L.map (·.2)).toArray.size=true:=by
 unfold SetTable.fits
 rw[T.fill,T.place]
 simp[hc]
theorem Fl{a:Addr}{o:Obj}{L:Ln Value}{ep:Nat}{t:SetTable}(hA:A.units<cLine)(ho:s.heap.get? a=some o)(hd:o.data = .set (L.map (·.2)).toArray ep t)(T:Tab t L)(hc:L.length<=t.mask)
  (hL:∀x∈L,∃k,Ent knd s.heap x k) {k:List K} {q:Addr} (hk:IsTupleKey knd s.heap k q) {adding:Bool} {e:Nat} {Q:SetFound->Shared->Prop}
  (yes:(∃x∈L,Ent knd s.heap x k)->∀r,(adding=false->r.isSome=true)->Q (.there r) s) (no:(∀x∈L,¬ Ent knd s.heap x k)->Q (.free e false) s) :
  ∀(n fuel:Nat) (stand:Option Probe),Way t.mask (Occ L) (stand.getD (t.probeStart (tupleKeyHash knd k))) n e->n<fuel->n<10*turns t.mask ->
   (∀y∈L,Ent knd s.heap y k->On t.mask (Occ L) (stand.getD (t.probeStart (tupleKeyHash knd k))) y.1) ->
   wpAny (model prog w) A (setSearchFrom a (.ref q) (tupleKeyHash knd k) adding fuel stand) Q E s:=by
 intro n
 induction n using Nat.strongRecOn with
 |_ n ih=>
  intro fuel stand wy hf hf2 hon
  obtain⟨f,rfl⟩:∃f,fuel=f+1:=⟨fuel-1,∅⟩
  have hfit:=fits_of T hc
  unfold setSearchFrom
  refine wpAny_bind (wpAny_setState_of ho hd hfit ?_)
  dsimp only
  have hgw:t.gaveWay=false:=by
   unfold SetTable.gaveWay
   rw[T.odd]
   rfl
  rw[hgw]
  simp only[false_eq_true,if_false]
  have hp:=MK T (hashAt:=fun i=>(((L.map (·.2)).toArray)[i]?.map (·.1)).getD 0) (fun i hi=>by
   unfold hashOf
   simp
   rfl) (tupleKeyHash knd k) n _ e (10*turns t.mask) wy hf2
  rcases hp with ⟨g1,g2⟩|⟨i,x,next,n',g1,g2,g3,g4,g5,g6,g7⟩
  ·refine (show wpAny (model prog w) A (match t.probe (fun i=>(((L.map (·.2)).toArray)[i]?.map (·.1)).getD 0) (tupleKeyHash knd k) (stand.getD (t.probeStart (tupleKeyHash knd k))) with|some met=>_|_=>_) Q E s from ?_)
   unfold probe
   rw[g1]
   refine wpAny_pure (no fun x hx z=>?_)
   obtain⟨_,_,_,z3⟩:=id z
   exact g2 x hx z3 (hon x hx z)
  ·refine (show wpAny (model prog w) A (match t.probe (fun i=>(((L.map (·.2)).toArray)[i]?.map (·.1)).getD 0) (tupleKeyHash knd k) (stand.getD (t.probeStart (tupleKeyHash knd k))) with|some met=>_|_=>_) Q E s from ?_)
   unfold probe
   rw[g1]
   dsimp only
   obtain⟨k',hk'⟩:=hL x (mem_of_getElem? g2)
   obtain⟨q',e1,e2,e3⟩:=id hk'
   have hes:(L.map (·.2)).toArray[i]? = some (x.2.1,.ref q'):=by
    rw[List.getElem?_toArray,getElem?_map,g2,<- e1]
    rfl
   have go:wpAny (model prog w) A (do
     let some (_,y):=((L.map (·.2)).toArray)[i]?|unsupported "internal:set-entry"
     let equal <- holding [y] (eqBool y (.ref q))
     let (es',_,t') <- setState a
     if adding&&equal then return .there none
     let some same:=t'.sameMemory t.moves t.mask|unsupported "set.changed-during-lookup:is-the-new-block-at-the-old-address"
     let still <- match (if same then t'.slot x.1 else .empty) with
      |.live i'=>match es'[i']? with
       |some (_,y')=>do pure (if <- isSame y' y then some i' else none)
       |none=>pure none
      |_=>pure none
     match still with
     |none=>rule "set.search.anew";setSearchFrom a (.ref q) (tupleKeyHash knd k) adding f none
     |some i'=>if equal then return .there (some i') else setSearchFrom a (.ref q) (tupleKeyHash knd k) adding f (some next)) Q E s:=by
    rw[hes]
    dsimp only
    refine wpAny_bind (wpAny_holding (wpAny_eqBool_tuple hA e2 hk ?_))
    refine wpAny_bind (wpAny_setState_of ho hd hfit ?_)
    dsimp only
    have sm:t.sameMemory t.moves t.mask=some true:=by
     unfold sameMemory
     rw[if_pos (beq_self_eq_true _)]
    by_cases c:k'=k
    ·subst c
     have hex:∃x∈L,Ent knd s.heap x k':=⟨x,mem_of_getElem? g2,hk'⟩
     rw[decide_eq_true rfl]
     cases adding with
     |true=>exact wpAny_pure (yes hex none fun z=>nomatch z)
     |false=>
      simp only[Bool.false_and,false_eq_true,if_false]
      rw[sm]
      dsimp only
      rw[if_pos rfl,g3]
      dsimp only
      rw[hes]
      dsimp only
      refine wpAny_bind (wpAny_isSame_ref_self (wpAny_bind (wpAny_pure ?_)))
      rw[if_pos rfl]
      dsimp only
      rw[if_pos trivial]
      exact wpAny_pure (yes hex _ fun _=>rfl)
    ·rw[decide_eq_false c]
     simp only[Bool.and_false,false_eq_true,if_false]
     rw[sm]
     dsimp only
     rw[if_pos rfl,g3]
     dsimp only
     rw[hes]
     dsimp only
     refine wpAny_bind (wpAny_isSame_ref_self (wpAny_bind (wpAny_pure ?_)))
     rw[if_pos rfl]
     dsimp only
     refine ih n' g5 f (some next) g6 ∅ ∅ fun y hy hyk=>?_
     obtain⟨_,_,_,z3⟩:=id hyk
     rcases g7 y hy z3 (hon y hy hyk) with z|z
     ·subst z
      exact absurd (hk'.inj hyk) c
     ·exact z
   cases hl:t.led with
   |true=>
    simp only[Bool.not_true,false_eq_true,if_false]
    exact go
   |false=>
    simp only[Bool.not_false,if_true]
    refine wpAny_bind (Mk hk _ (fun v hv=>?_) ?_)
    ·obtain⟨y,hy,rfl⟩:=List.mem_map.mp hv
     have hy1:y∈L.map (·.2):=by
      have:=Array.mem_toList_iff.mp hy
      rw[Array.mem_filter] at this
      simpa using this.1
     obtain⟨x',hx',rfl⟩:=List.mem_map.mp hy1
     obtain⟨k'',q'',b1,b2,_⟩:=hL x' hx'
     exact⟨k'',q'',b1,b2⟩
    ·simp only[false_eq_true,if_false]
     exact go
end
end ST
namespace ST
open PySem PySem.SetTable
noncomputable def Ga(h:Heap)(a:Addr)(L:Ln Value):Prop:=∃o ep t,h.get? a=some o/\o.ExactSet/\o.data = .set (L.map (·.2)).toArray ep t/\Tab t L/\L.length*5<t.mask*3
section
variable {prog:Program}{w:World}{K:Type}[DecidableEq K]{knd:KeyKind prog w K}
variable {A:Around}{E:Value->Shared->Prop}{s:Shared}
theorem BW{a:Addr}{o:Obj}{L:Ln Value}{ep:Nat}{t:SetTable}(hA:A.units<cLine)(ho:s.heap.get? a=some o)(hd:o.data = .set (L.map (·.2)).toArray ep t)(T:Tab t L)(hc:L.length<=t.mask)
  (hL:∀x∈L,∃k,Ent knd s.heap x k) (hb:L.length<=9900) {k:List K} {q:Addr} (hk:IsTupleKey knd s.heap k q) {adding:Bool} {Q:SetFound->Shared->Prop}
  (yes:(∃x∈L,Ent knd s.heap x k)->∀r,(adding=false->r.isSome=true)->Q (.there r) s)
  (no:(∀x∈L,¬ Ent knd s.heap x k)->∀n e,Way t.mask (Occ L) (sth t.mask (tupleKeyHash knd k)) n e->e<=t.mask->Q (.free e false) s) :
  wpAny (model prog w) A (setSearch a (.ref q) (tupleKeyHash knd k) adding) Q E s:=by
 obtain⟨n,e,wy,hn,he⟩:=T.way hc (tupleKeyHash knd k)
 refine Fl hA ho hd T hc hL hk yes (fun z=>no z n e wy he) n 100000 none wy ∅ (by unfold turns;omega) fun y hy hyk=>?_
 obtain⟨_,_,_,z3⟩:=hyk
 have:=T.on y hy
 rw[z3] at this
 exact this
theorem Iw(q:Addr)(es:Array (Int×Value)):byScan (.ref q) es=false:=rfl
theorem FL{a:Addr}{L:Ln Value}(hA:A.units<cLine)(S:Ga s.heap a L)(hL:∀x∈L,∃k,Ent knd s.heap x k)(hb:L.length<=9900){k:List K}{q:Addr}(hk:IsTupleKey knd s.heap k q){Q:Bool->Shared->Prop}
  (h:∀b:Bool,(b=true↔∃x∈L,Ent knd s.heap x k)->Q b {s with toks:=s.toks+(k.length+1)}):wpAny (model prog w) A (setContains a (.ref q)) Q E s:=by
 obtain⟨o,ep,t,ho,hex,hd,T,hr⟩:=S
 unfold setContains
 refine wpAny_holding (wpAny_bind (wpAny_pyHash_tuple hA hk (wpAny_bind ?_)))
 have hc:L.length<=t.mask:=by omega
 unfold setFind setFindIn
 refine wpAny_bind (wpAny_setState_of (s:={s with toks:=s.toks+(k.length+1)}) ho hd (fits_of T hc) ?_)
 dsimp only
 rw[Iw]
 simp only[false_eq_true,if_false]
 refine wpAny_bind (BW (s:={s with toks:=s.toks+(k.length+1)}) hA ho hd T hc hL hb hk (fun z r hr=>?_) fun z n e _ _=>?_)
 ·refine wpAny_pure (wpAny_pure (h _ ⟨fun _=>z,fun _=>hr rfl⟩))
 ·refine wpAny_pure (wpAny_pure (h _ ⟨fun w=>(nomatch w),fun ⟨x,hx,hx2⟩=>absurd hx2 (z x hx)⟩))
theorem MR{ks:List K}{a:Addr}{Q:Bool->Shared->Prop}(hk:IsTupleKey knd s.heap ks a)(h:∀b,Q b s):wpAny (model prog w) A (hashByValue 8 (.ref a)) Q E s:=by
 have hT:=hk.typeIs
 obtain⟨o,items,n,ho,_,hd,hi⟩:=hk
 unfold hashByValue
 refine wpAny_bind (wpAny_specialOf hT F.slot_tuple_hash.lookup ?_)
 dsimp only
 refine wpAny_bind (wpAny_seqItems ho hd ?_)
 refine wpAny_bind ?_
 show wpAny _ _ (forIn items _ _) _ _ s
 rw[<- Array.forIn_toList]
 refine wpAny_forIn_list _ (fun rest r s'=>r.1=none/\s'=s/\∀v∈rest,carriedByValue v=true) _ ?_ ?_ _ _ ⟨rfl,rfl,hi.byValue⟩
 ·rintro v rest r s' ⟨hr,rfl,hall⟩
  have e:∃b,hashByValue 7 v=pure b:=by
   have:=hall v mem_cons_self
   cases v with
   |ref a=>simp[carriedByValue] at this
   |_=>exact⟨_,rfl⟩
  obtain⟨b,e⟩:=e
  rw[e]
  refine wpAny_bind (wpAny_pure ?_)
  cases b with
  |true=>
   simp only[Bool.not_true,false_eq_true,if_false]
   exact wpAny_pure ⟨rfl,rfl,fun u hu'=>hall u (mem_cons_of_mem _ hu')⟩
  |false=>
   simp only[Bool.not_false,if_true]
   exact wpAny_pure (wpAny_pure (h _))
 ·rintro ⟨r1,r2⟩ s' ⟨hr,rfl,_⟩
  simp only at hr
  subst hr
  exact wpAny_pure (h _)
theorem Tab.plain{t:SetTable}{L:Ln Value}(T:Tab t L)(b:Bool):Tab {t with plain:=b} L:=⟨T.place,T.ris,T.le,T.dum,T.two,T.on⟩
theorem Be{h:Heap}{a:Addr}{o:Obj}{es:Array (Int×Value)}{ep:Nat}{t:SetTable}(ho:h.get? a=some o)(hd:o.data = .set es ep t)(es':Array (Int×Value))(t':SetTable) :
  (h.update a (Obj.putSet es' t')).get? a=some {o with data:=.set es' (ep+1) t'}:=by
 have:=Heap.get?_update_self (Obj.putSet es' t') ho (by rw[putSet_of es' t' hd];rfl)
 rw[putSet_of es' t' hd] at this;exact this
theorem NN{a:Addr}{o:Obj}{L:Ln Value}{ep:Nat}{t:SetTable}(ho:s.heap.get? a=some o)(hex:o.ExactSet)(hd:o.data = .set (L.map (·.2)).toArray ep t)(T:Tab t L)(hc:L.length<=t.mask)(h0:0<L.length)(hb:L.length<=9900)
  {Q:Unit->Shared->Prop} (h:∀h' L',Heap.SameBut a s.heap h'->Ga h' a L'->L'.length=L.length->(∀y,y∈L'.map (·.2)↔y∈L.map (·.2))->Q () {s with heap:=h'}) :
  wpAny (model prog w) A (setRelay a (SetTable.grown L.length)) Q E s:=by
 have eg:SetTable.grown L.length=L.length*4:=by
  unfold SetTable.grown
  rw[if_neg ∅]
 rw[eg]
 obtain⟨k,k1,k2,k3,k4⟩:=Pn (L.length*4) (Nat.lt_of_le_of_lt (show L.length*4<=40000 by omega) ⋯)
 have hk8:2 ^ 3<=2 ^ k:=Nat.pow_le_pow_right (show 2>0 by decide) k2
 have hm:(SetTable.sizeAbove (L.length*4)-1)+1=2 ^ k:=by rw[k1];omega
 have hD:(L.map (·.2)).length=L.length:=length_map ..
 obtain⟨t',order,L',l1,l2,l3,l4,l5,l6,_,_⟩:=Oy (β:=Value) hm k2 (L.map (·.2)) (by rw[hD,k1];omega) t.finger (t.movedTo (SetTable.sizeAbove (L.length*4)-1)) t.led t.plain
 rw[hD] at l4
 unfold setRelay
 refine wpAny_bind (wpAny_setState_of ho hd (fits_of T hc) ?_)
 dsimp only
 rw[if_neg (by rw[k1,sizeLine_eq];omega)]
 have er:t.relaid ((L.map (·.2)).toArray.map (·.1)) (L.length*4)=some (t',order):=l1
 rw[er]
 refine wpAny_bind ?_
 show wpAny _ _ (if ((order.filterMap ((L.map (·.2)).toArray[·]?)).size != (L.map (·.2)).toArray.size)=true then _ else _) _ _ s
 rw[l2]
 have e0:((L'.map (·.2)).toArray.size != (L.map (·.2)).toArray.size)=false:=by simp[l4]
 rw[e0]
 simp only[false_eq_true,if_false]
 refine wpAny_pure ?_
 dsimp only
 refine wpAny_storeSet_of ho hd ?_ (by rw[size_toArray,length_map,l4,sizeLine_eq];omega)
 exact h _ L' (Heap.SameBut.update s.heap a _) ⟨_,_,t',Be ho hd _ _,hex,rfl,l3,by rw[l4,l6,k1];omega⟩ l4 l5
theorem Sd{a:Addr}{L:Ln Value}(hA:A.units<cLine)(S:Ga s.heap a L)(hL:∀x∈L,∃k,Ent knd s.heap x k)(hb:L.length<=9800){k:List K}{q:Addr}(hk:IsTupleKey knd s.heap k q){Q:Bool->Shared->Prop}
  (yes:(∃x∈L,Ent knd s.heap x k)->Q false {s with toks:=s.toks+(k.length+1)})
  (no:(∀x∈L,¬ Ent knd s.heap x k)->∀h' L',Heap.SameBut a s.heap h'->Ga h' a L'->L'.length=L.length+1->(∀y,y∈L'.map (·.2)↔y∈L.map (·.2)\/y=(tupleKeyHash knd k,.ref q)) ->
   Q true {s with heap:=h',toks:=s.toks+(k.length+1)}):wpAny (model prog w) A (setAdd a (.ref q)) Q E s:=by
 obtain⟨o,ep,t,ho,hex,hd,T,hr⟩:=S
 have hc:L.length<=t.mask:=by omega
 unfold setAdd
 refine wpAny_holding (wpAny_bind (wpAny_pyHash_tuple hA hk ?_))
 unfold setAddHashed
 refine wpAny_holding ?_
 unfold setAddHashedIn
 refine wpAny_bind (wpAny_setState_of (s:={s with toks:=s.toks+(k.length+1)}) ho hd (fits_of T hc) ?_)
 dsimp only
 rw[Iw]
 simp only[false_eq_true,if_false]
 refine wpAny_bind (BW (s:={s with toks:=s.toks+(k.length+1)}) hA ho hd T hc hL ∅ hk (fun z r hr=>?_) fun z n e wy he=>?_)
 ·exact wpAny_pure (yes z)
 ·dsimp only
  refine wpAny_bind (wpAny_setState_of (s:={s with toks:=s.toks+(k.length+1)}) ho hd (fits_of T hc) ?_)
  dsimp only
  obtain⟨B1,B2,rfl,p1,p2⟩:=T.put (y:=Value.ref q) wy he
  have mk:(t.put e).1.mask=t.mask:=rfl
  rw[p1]
  have ees:insertAt ((B1++B2).map (·.2)).toArray B1.length (tupleKeyHash knd k,Value.ref q)=((B1++(e,tupleKeyHash knd k,Value.ref q)::B2).map (·.2)).toArray:=by
   rw[map_append,map_append]
   have:=Bz (B1.map (·.2)) (B2.map (·.2)) (tupleKeyHash knd k,Value.ref q)
   rw[length_map] at this
   exact this
  have len1:(B1++(e,tupleKeyHash knd k,Value.ref q)::B2).length=(B1++B2).length+1:=by simp;omega
  have mem1:∀y,y∈(B1++(e,tupleKeyHash knd k,Value.ref q)::B2).map (·.2)↔y∈(B1++B2).map (·.2)\/y=(tupleKeyHash knd k,.ref q):=fun y=>by
   rw[map_append,map_append,mem_append,mem_append,map_cons,mem_cons]
   constructor
   ·rintro (z|z|z)
    ·exact .inl (.inl z)
    ·exact .inr z
    ·exact .inl (.inr z)
   ·rintro ((z|z)|z)
    ·exact .inl z
    ·exact .inr (.inr z)
    ·exact .inr (.inl z)
  have tail:∀(t1:SetTable),Tab t1 (B1++(e,tupleKeyHash knd k,Value.ref q)::B2)->t1.mask=t.mask->wpAny (model prog w) A (do
    storeSet a (insertAt ((B1++B2).map (·.2)).toArray B1.length (tupleKeyHash knd k,Value.ref q)) t1
    if (!false&&t1.tooFull)=true then do
     setRelay a (SetTable.grown (((B1++B2).map (·.2)).toArray.size+1))
     pure true
    else pure true) Q E {s with toks:=s.toks+(k.length+1)}:=by
   intro t1 T1 m1
   rw[ees]
   have hs1:((B1++(e,tupleKeyHash knd k,Value.ref q)::B2).map (·.2)).toArray.size<=sizeLine:=by
    rw[size_toArray,length_map,len1,sizeLine_eq];omega
   refine wpAny_bind (wpAny_storeSet_of (s:={s with toks:=s.toks+(k.length+1)}) ho hd ?_ hs1)
   have ho1:=Be ho hd ((B1++(e,tupleKeyHash knd k,Value.ref q)::B2).map (·.2)).toArray t1
   have sb1:=Heap.SameBut.update s.heap a (Obj.putSet ((B1++(e,tupleKeyHash knd k,Value.ref q)::B2).map (·.2)).toArray t1)
   have esz:((B1++B2).map (·.2)).toArray.size+1=(B1++(e,tupleKeyHash knd k,Value.ref q)::B2).length:=by
    rw[len1,size_toArray,length_map]
   rw[esz]
   by_cases tf:t1.tooFull=true
   ·rw[tf]
    rw[if_pos (by rfl)]
    refine wpAny_bind (NN (s:={s with heap:=_,toks:=s.toks+(k.length+1)}) ho1 hex rfl T1 (by rw[len1,m1];omega) ∅ ∅ fun h' L' c1 c2 c3 c4=>?_)
    exact wpAny_pure (no z h' L' (sb1.trans c1) c2 (c3.trans len1) fun y=>(c4 y).trans (mem1 y))
   ·rw[if_neg (by simpa using tf)]
    refine wpAny_pure (no z _ _ sb1 ⟨_,_,t1,ho1,hex,rfl,T1,?_⟩ len1 mem1)
    unfold tooFull at tf
    rw[T1.fill] at tf
    simpa using tf
  by_cases pl:(t.put e).1.plain=true
  ·rw[if_pos pl]
   refine wpAny_bind (MR (s:={s with toks:=s.toks+(k.length+1)}) hk fun b=>?_)
   cases b with
   |true=>exact tail _ p2 rfl
   |false=>exact tail _ (p2.plain false) rfl
  ·rw[if_neg pl]
   refine wpAny_bind (wpAny_pure ?_)
   exact tail _ p2 rfl
end
end ST
set_option maxHeartbeats 4000000
namespace NM
@[irreducible] def Sz (n:Nat) (i:Int):Prop:=i.natAbs<2 ^ n
theorem Sz.mono{n m:Nat}{i:Int}(h:Sz n i)(l:n<=m):Sz m i:=by unfold Sz at *;exact lt_of_lt_of_le h (Nat.pow_le_pow_right ⋯ l)
theorem Sz.mul{n m:Nat}{i j:Int}(h:Sz n i)(g:Sz m j):Sz (n+m) (i*j):=by
 unfold Sz at *
 rw[natAbs_mul,Nat.pow_add]
 exact Nat.mul_lt_mul'' h g
theorem Sz.add{n:Nat}{i j:Int}(h:Sz n i)(g:Sz n j):Sz (n+1) (i+j):=by
 unfold Sz at *
 have:=Int.natAbs_add_le i j
 rw[pow_succ]
 omega
theorem Sz.neg{n:Nat}{i:Int}(h:Sz n i):Sz n (-i):=by unfold Sz at *;rw[Int.natAbs_neg];exact h
theorem Sz.sub{n:Nat}{i j:Int}(h:Sz n i)(g:Sz n j):Sz (n+1) (i-j):=by rw[Int.sub_eq_add_neg];exact h.add g.neg
theorem Sz.le{n:Nat}{i j:Int}(h:Sz n i)(g:j.natAbs<=i.natAbs):Sz n j:=by unfold Sz at *;exact Nat.lt_of_le_of_lt g h
theorem Sz.of{n:Nat}{i:Int}(h:i.natAbs<2 ^ n):Sz n i:=by unfold Sz;exact h
theorem Sz.lt{n:Nat}{i:Int}(h:Sz n i):i.natAbs<2 ^ n:=by unfold Sz at h;exact h
noncomputable def g3(a b c:Int):Nat:=Int.gcd (Int.gcd a b:Nat) c
theorem Ow(a b c:Int):Int.gcd (Int.gcd c a:Nat) b=g3 a b c:=by
 unfold g3
 simp only[Int.gcd,Int.natAbs_natCast]
 rw[Nat.gcd_assoc,Nat.gcd_comm]
theorem Na(a b c:Int):((g3 a b c:Nat):Int) ∣ a/\((g3 a b c:Nat):Int) ∣ b/\((g3 a b c:Nat):Int) ∣ c:=by
 have h:((g3 a b c:Nat):Int) ∣ ((Int.gcd a b:Nat):Int):=Int.gcd_dvd_left ..
 exact⟨Int.dvd_trans h (Int.gcd_dvd_left ..),Int.dvd_trans h (Int.gcd_dvd_right ..),Int.gcd_dvd_right ..⟩
theorem Rb{a b c:Int}{k:Nat}(h1:(k:Int) ∣ a)(h2:(k:Int) ∣ b)(h3:(k:Int) ∣ c):k ∣ g3 a b c:=by
 unfold g3
 exact Int.dvd_gcd (Int.natCast_dvd_natCast.mpr (Int.dvd_gcd h1 h2)) h3
theorem D3{a b c:Int}(h:c≠0):0<g3 a b c:=by
 unfold g3
 exact Int.gcd_pos_of_ne_zero_right _ h
theorem Np(a b c k:Int):g3 (a*k) (b*k) (c*k)=g3 a b c*k.natAbs:=by
 unfold g3
 simp only[Int.gcd,Int.natAbs_natCast,natAbs_mul,Nat.gcd_mul_right]
theorem Mj(a b c:Int):g3 a (-b) c=g3 a b c:=by
 unfold g3
 rw[Int.gcd_neg]
theorem MH(a b c:Int):g3 (-a) b c=g3 a b c:=by
 unfold g3
 rw[Int.neg_gcd]
structure N3 where
 a:Int
 b:Int
 c:Int
deriving DecidableEq
theorem N3.ext'{x y:N3}(h1:x.a=y.a)(h2:x.b=y.b)(h3:x.c=y.c):x=y:=by cases x;cases y;simp_all
structure Ok(x:N3):Prop where
 c:0<x.c
 g:g3 x.a x.b x.c=1
noncomputable def dv(a b c:Int):Int:=if c<0 then -(g3 a b c:Nat) else (g3 a b c:Nat)
noncomputable def low(a b c:Int):N3:=⟨a.fdiv (dv a b c),b.fdiv (dv a b c),c.fdiv (dv a b c)⟩
theorem Dn{a k q:Int}(hk:k≠0)(h:a=k*q):a.fdiv k=q:=by
 subst h
 exact Int.mul_fdiv_cancel_left q hk
theorem Ta{a b c:Int}(h:c≠0):dv a b c≠0:=by
 have:=D3 (a:=a) (b:=b) h
 unfold dv
 split<;>omega
theorem QZ(a b c:Int):dv a b c ∣ a/\dv a b c ∣ b/\dv a b c ∣ c:=by
 obtain⟨h1,h2,h3⟩:=Na a b c
 unfold dv
 split
 ·exact⟨Int.neg_dvd.mpr h1,Int.neg_dvd.mpr h2,Int.neg_dvd.mpr h3⟩
 ·exact⟨h1,h2,h3⟩
theorem oO(a b:Int){c:Int}(h:c≠0):∃k:Int,k≠0/\(0<k↔0<c)/\a=k*(low a b c).a/\b=k*(low a b c).b/\c=k*(low a b c).c/\Ok (low a b c):=by
 have hk:=Ta (a:=a) (b:=b) h
 obtain⟨⟨p,hp⟩,⟨q,hq⟩,⟨r,hr⟩⟩:=QZ a b c
 have ep:(low a b c).a=p:=Dn hk hp
 have eq:(low a b c).b=q:=Dn hk hq
 have er:(low a b c).c=r:=Dn hk hr
 have hg:=D3 (a:=a) (b:=b) h
 have hs:0<dv a b c↔0<c:=by unfold dv;split<;>omega
 have hr0:0<r:=by
  have hr':r≠0:=fun z=>h (by rw[hr,z,Int.mul_zero])
  rcases Int.lt_trichotomy 0 (dv a b c) with z|z|z
  ·have:=hs.mp z
   rw[hr] at this
   rw[Int.mul_comm] at this
   exact Int.pos_of_mul_pos_left this z |> fun t=>t
  ·exact absurd z.symm hk
  ·have:c<0:=by omega
   rcases Int.lt_trichotomy 0 r with w|w|w
   ·exact w
   ·exact absurd w.symm hr'
   ·have:=Int.mul_pos_of_neg_of_neg z w
    rw[<- hr] at this
    omega
 refine⟨dv a b c,hk,hs,by rw[ep];exact hp,by rw[eq];exact hq,by rw[er];exact hr,by rw[er];exact hr0,?_⟩
 rw[ep,eq,er]
 have e:=Np p q r (dv a b c)
 rw[Int.mul_comm p,Int.mul_comm q,Int.mul_comm r,<- hp,<- hq,<- hr] at e
 have e2:(dv a b c).natAbs=g3 a b c:=by unfold dv;split<;>simp
 rw[e2] at e
 have:g3 p q r*g3 a b c=1*g3 a b c:=by omega
 exact Nat.eq_of_mul_eq_mul_right hg this
theorem eG(a b:Int){c:Int}(h:c≠0):Ok (low a b c):=(oO a b h).choose_spec.2.2.2.2.2
theorem Ok.same{x y:N3}(hx:Ok x)(hy:Ok y)(h1:x.a*y.c=y.a*x.c)(h2:x.b*y.c=y.b*x.c):x=y:=by
 have key:∀{u v:N3},Ok u->Ok v->u.a*v.c=v.a*u.c->u.b*v.c=v.b*u.c->u.c ∣ v.c:=fun {u v} hu hv e1 e2=>by
  have hd:u.c.natAbs ∣ g3 (u.a*v.c) (u.b*v.c) (u.c*v.c):=Rb
   (by rw[Int.natAbs_of_nonneg (le_of_lt hu.c),e1];exact Int.dvd_mul_left _ _) (by rw[Int.natAbs_of_nonneg (le_of_lt hu.c),e2];exact Int.dvd_mul_left _ _) (by rw[Int.natAbs_of_nonneg (le_of_lt hu.c)];exact Int.dvd_mul_right _ _)
  rw[Np,hu.g,Nat.one_mul] at hd
  exact Int.natAbs_dvd_natAbs.mp hd
 have hc:x.c=y.c:=Int.dvd_antisymm (le_of_lt hx.c) (le_of_lt hy.c) (key hx hy h1 h2) (key hy hx h1.symm h2.symm)
 have hn:y.c≠0:=by have:=hy.c;omega
 rw[hc] at h1 h2
 exact N3.ext' (eq_of_mul_eq_mul_right hn h1) (eq_of_mul_eq_mul_right hn h2) hc
theorem Se(a b:Int){c:Int}(h:c≠0):(low a b c).a.natAbs<=a.natAbs/\(low a b c).b.natAbs<=b.natAbs/\(low a b c).c.natAbs<=c.natAbs:=by
 obtain⟨k,hk,_,p1,p2,p3,_⟩:=oO a b h
 have hk':1<=k.natAbs:=by omega
 have le:∀{u v:Int},u=k*v->v.natAbs<=u.natAbs:=fun {u v} e=>by
  rw[e,natAbs_mul]
  exact Nat.le_mul_of_pos_left _ hk'
 exact⟨le p1,le p2,le p3⟩
structure Bd(n:Nat)(x:N3):Prop where
 a:Sz n x.a
 b:Sz n x.b
 c:Sz n x.c
theorem Bd.mono{n m:Nat}{x:N3}(h:Bd n x)(l:n<=m):Bd m x:=⟨h.a.mono l,h.b.mono l,h.c.mono l⟩
theorem nh{a b c:Int}{n:Nat}(h:c≠0)(ha:Sz n a)(hb:Sz n b)(hc:Sz n c):Bd n (low a b c):=by
 obtain⟨h1,h2,h3⟩:=Se a b h
 exact⟨ha.le h1,hb.le h2,hc.le h3⟩
noncomputable def plus(x y:N3):N3:=low (x.a*y.c+y.a*x.c) (x.b*y.c+y.b*x.c) (x.c*y.c)
noncomputable def less(x y:N3):N3:=low (x.a*y.c-y.a*x.c) (x.b*y.c-y.b*x.c) (x.c*y.c)
noncomputable def times(d:Int)(x y:N3):N3:=low (x.a*y.a+d*x.b*y.b) (x.a*y.b+x.b*y.a) (x.c*y.c)
noncomputable def norm(d:Int)(x:N3):Int:=x.a*x.a-d*x.b*x.b
noncomputable def bb(d:Int)(x:N3):N3:=low (x.c*x.a) (-x.c*x.b) (norm d x)
noncomputable def Ou(x:N3):N3:=⟨x.a,-x.b,x.c⟩
noncomputable def minus(x:N3):N3:=⟨-x.a,-x.b,x.c⟩
noncomputable def ay:N3:=⟨0,0,1⟩
noncomputable def one:N3:=⟨1,0,1⟩
theorem Ok.cn{x:N3}(h:Ok x):x.c≠0:=by have:=h.c;omega
theorem yw{x y:N3}(h:Ok x)(g:Ok y):x.c*y.c≠0:=mul_ne_zero h.cn g.cn
theorem pD{x:N3}(h:Ok x):Ok (minus x):=⟨h.c,by show g3 (-x.a) (-x.b) x.c=1;rw[MH,Mj];exact h.g⟩
theorem dP{x y:N3}(h:Ok x)(g:Ok y):Ok (plus x y):=eG _ _ (yw h g)
theorem dm{x y:N3}(h:Ok x)(g:Ok y):Ok (less x y):=eG _ _ (yw h g)
theorem aV{d:Int}{x y:N3}(h:Ok x)(g:Ok y):Ok (times d x y):=eG _ _ (yw h g)
theorem bN:Ok ay:=⟨⋯,⋯⟩
theorem vi:Ok one:=⟨⋯,⋯⟩
theorem xO{n:Nat}{x:N3}(h:Bd n x):Bd n (minus x):=⟨h.a.neg,h.b.neg,h.c⟩
theorem Jn{n m:Nat}{x y:N3}(hx:Ok x)(hy:Ok y)(h:Bd n x)(g:Bd m y):Bd (n+m+1) (plus x y):=
 nh (yw hx hy) ((h.a.mul g.c).add ((g.a.mul h.c).mono ∅)) ((h.b.mul g.c).add ((g.b.mul h.c).mono ∅)) ((h.c.mul g.c).mono ∅)
theorem Ii{n m:Nat}{x y:N3}(hx:Ok x)(hy:Ok y)(h:Bd n x)(g:Bd m y):Bd (n+m+1) (less x y):=
 nh (yw hx hy) ((h.a.mul g.c).sub ((g.a.mul h.c).mono ∅)) ((h.b.mul g.c).sub ((g.b.mul h.c).mono ∅)) ((h.c.mul g.c).mono ∅)
theorem zA{d:Int}(h:2<=d)(h':d<=30):Sz 5 d:=by unfold Sz;omega
theorem eS{n m:Nat}{d:Int}{x y:N3}(hd:Sz 5 d)(hx:Ok x)(hy:Ok y)(h:Bd n x)(g:Bd m y):Bd (n+m+6) (times d x y):=
 nh (yw hx hy) (((h.a.mul g.a).mono ∅).add (((hd.mul h.b).mul g.b).mono ∅)) ((((h.a.mul g.b).mono (by omega:n+m<=n+m)).add ((h.b.mul g.a).mono ∅)).mono ∅) ((h.c.mul g.c).mono ∅)
theorem Df{n:Nat}{d:Int}{x:N3}(hd:Sz 5 d)(h:Bd n x):Sz (2*n+6) (norm d x):=by
 have e1:=h.a.mul h.a
 have e2:=(hd.mul h.b).mul h.b
 exact ((e1.mono (by omega:n+n<=5+n+n)).sub e2).mono ∅
theorem ko{n:Nat}{d:Int}{x:N3}(hd:Sz 5 d)(hn:norm d x≠0)(h:Bd n x):Bd (2*n+6) (bb d x):=
 nh hn ((h.c.mul h.a).mono ∅) ((h.c.neg.mul h.b).mono ∅) (Df hd h)
noncomputable def aH(d:Int):Prop:=2<=d/\d<=30/\d≠4/\d≠9/\d≠16/\d≠25
theorem Kw{d:Nat}(h:∀m:Nat,m*m≠d):∀{a b:Nat},a*a=d*(b*b)->b=0:=fun {a b} e=>by
 rcases Nat.eq_zero_or_pos b with hb|hb
 ·exact hb
 exfalso
 obtain⟨g,p,q,hg,hc,rfl,rfl⟩:=Nat.exists_coprime' (m:=a) (n:=b) (Nat.gcd_pos_of_pos_right _ hb)
 have e2:(p*p)*(g*g)=(d*(q*q))*(g*g):=by grind
 have e3:p*p=d*(q*q):=Nat.eq_of_mul_eq_mul_right (Nat.mul_pos hg hg) e2
 have hq:q ∣ p*p:=⟨d*q,by rw[e3];grind⟩
 have hq1:q ∣ p:=hc.symm.dvd_of_dvd_mul_left hq
 have hq2:q=1:=by
  have:=Nat.dvd_gcd hq1 (Nat.dvd_refl q)
  rw[hc] at this
  exact Nat.dvd_one.mp this
 subst hq2
 exact h p (by rw[e3];simp)
theorem aH.nat{d:Int}(h:aH d):∀m:Nat,m*m≠d.toNat:=fun m e=>by
 obtain⟨h1,h2,h3,h4,h5,h6⟩:=h
 have hm:m<=5:=by
  rcases lt_or_ge 5 m with z|z
  ·have:=mul_le_mul z z;omega
  ·exact z
 have:m=0\/m=1\/m=2\/m=3\/m=4\/m=5:=by omega
 rcases this with rfl|rfl|rfl|rfl|rfl|rfl<;>omega
theorem aH.Ht{d a b:Int}(h:aH d)(e:a*a=d*b*b):a=0/\b=0:=by
 have hd:d=((d.toNat:Nat):Int):=by have:=h.1;omega
 have e1:a.natAbs*a.natAbs=d.toNat*(b.natAbs*b.natAbs):=by
  have e2:=congrArg Int.natAbs e
  rw[natAbs_mul,natAbs_mul,natAbs_mul] at e2
  rw[e2,Nat.mul_assoc]
  congr 1
  omega
 have hb:=Kw h.nat e1
 have hb':b=0:=by omega
 subst hb'
 have:a*a=0:=by rw[e];simp
 exact⟨by rcases Int.mul_eq_zero.mp this with z|z<;>exact z,rfl⟩
theorem aH.norm{d:Int}{x:N3}(h:aH d)(ok:Ok x)(hx:x≠ay):norm d x≠0:=fun e=>by
 have e':x.a*x.a=d*x.b*x.b:=by unfold NM.norm at e;omega
 obtain⟨h1,h2⟩:=h.Ht e'
 apply hx
 have hg:=ok.g
 rw[h1,h2] at hg
 have hc:=ok.c
 have:x.c=1:=by
  unfold g3 at hg
  simp[Int.gcd] at hg
  omega
 exact N3.ext' h1 h2 this
theorem bB{d:Int}{x:N3}(h:NM.norm d x≠0):Ok (bb d x):=eG _ _ h
noncomputable def sg(d a b:Int):Int:=
 if a=0/\b=0 then 0 else if 0<=a/\0<=b then 1 else if a<=0/\b<=0 then -1 else if (if d*b*b<a*a then a else b)>0 then 1 else -1
theorem P8{u v:Int}(hu:0<=u)(h:u*u<=v*v)(hv:0<=v):u<=v:=by
 rcases Int.lt_or_le v u with z|z
 ·have:=Int.mul_lt_mul_of_pos_left z (show 0<u by omega)
  have:=Int.mul_le_mul_of_nonneg_right (le_of_lt z) hv
  omega
 ·exact z
theorem sq_nonneg(u:Int):0<=u*u:=by
 rcases Int.le_total 0 u with h|h
 ·exact mul_nonneg h h
 ·exact Int.mul_nonneg_of_nonpos_of_nonpos h h
noncomputable def P(d a b:Int):Prop:=(0<=a/\0<=b/\¬ (a=0/\b=0))\/(0<a/\b<0/\d*b*b<a*a)\/(a<0/\0<b/\a*a<d*b*b)
theorem kZ{d a b:Int}(h:aH d):sg d a b=1↔P d a b:=by
 unfold sg P
 have key:a*a=d*b*b->a=0/\b=0:=h.Ht
 by_cases c1:d*b*b<a*a
 ·simp only[c1,if_true];split<;>(try split)<;>(try split)<;>(try split)<;>simp<;>omega
 ·simp only[c1,if_false];split<;>(try split)<;>(try split)<;>(try split)<;>simp<;>omega
theorem Ad{d a b:Int}(h:aH d):sg d (-a) (-b) = - sg d a b:=by
 unfold sg
 have key:a*a=d*b*b->a=0/\b=0:=h.Ht
 have e1:d * -b * -b=d*b*b:=by grind
 have e2:-a * -a=a*a:=by grind
 rw[e1,e2]
 by_cases c1:d*b*b<a*a
 ·simp only[c1,if_true];split<;>split<;>(try split)<;>(try split)<;>(try split)<;>(try split)<;>(try split)<;>(try split)<;>omega
 ·simp only[c1,if_false];split<;>split<;>(try split)<;>(try split)<;>(try split)<;>(try split)<;>(try split)<;>(try split)<;>omega
theorem eU{d a b:Int}:sg d a b=0↔a=0/\b=0:=by
 unfold sg;split<;>(try split)<;>(try split)<;>(try split)<;>omega
theorem oB(d a b:Int):sg d a b=0\/sg d a b=1\/sg d a b = -1:=by
 unfold sg;split<;>(try split)<;>(try split)<;>(try split)<;>omega
theorem SQ{d a b:Int}(h:aH d):(a=0/\b=0)\/P d a b\/P d (-a) (-b):=by
 rcases oB d a b with e|e|e
 ·exact .inl (eU.mp e)
 ·exact .inr (.inl ((kZ h).mp e))
 ·exact .inr (.inr ((kZ h).mp (by rw[Ad h,e];rfl)))
theorem pT{d a b:Int}(h:aH d)(n:d*b*b<a*a):P d a b↔0<a:=by
 unfold P
 have:=sq_nonneg b
 have h0:0<=d*b*b:=by rw[Int.mul_assoc];exact mul_nonneg (by have:=h.1;omega) this
 have ha:a≠0:=fun z=>by subst z;simp at n;omega
 omega
theorem ml{d a b:Int}(h:aH d)(n:a*a<d*b*b):P d a b↔0<b:=by
 unfold P
 have h0:=sq_nonneg a
 have hb:b≠0:=fun z=>by subst z;simp at n;omega
 omega
theorem uM{u v:Int}(h:v*v<u*u):0<u+v↔0<u:=by
 have hu:u≠0:=fun z=>by subst z;have:=sq_nonneg v;simp at h;omega
 have l:v.natAbs<u.natAbs:=by
  rcases lt_or_ge v.natAbs u.natAbs with z|z
  ·exact z
  ·have:=mul_le_mul z z
   have e1:((u.natAbs*u.natAbs:Nat):Int)=u*u:=Int.natAbs_mul_self
   have e2:((v.natAbs*v.natAbs:Nat):Int)=v*v:=Int.natAbs_mul_self
   omega
 omega
theorem mul_pos_iff{u v:Int}(hu:u≠0)(hv:v≠0):0<u*v↔(0<u↔0<v):=by
 rcases lt_or_gt_of_ne hu with h|h<;>rcases lt_or_gt_of_ne hv with g|g
 ·have:=Int.mul_pos_of_neg_of_neg h g;omega
 ·have:=Int.mul_neg_of_neg_of_pos h g;omega
 ·have:=Int.mul_neg_of_pos_of_neg h g;omega
 ·have:=mul_pos h g;omega
theorem zT{u v s t:Int}(hu:0<=u)(h:u<v)(hs:0<=s)(g:s<t):u*s<v*t:=by
 have e1:u*s<=v*s:=Int.mul_le_mul_of_nonneg_right (le_of_lt h) hs
 have e2:v*s<v*t:=Int.mul_lt_mul_of_pos_left g ∅
 omega
theorem dsq{d b:Int}(hd:0<d):0<=d*b*b:=by rw[Int.mul_assoc];exact mul_nonneg (le_of_lt hd) (sq_nonneg b)
theorem Tw{d a b p q:Int}(h:aH d)(h1:¬ (a=0/\b=0))(h2:¬ (p=0/\q=0)):P d (a*p+d*b*q) (a*q+b*p)↔(P d a b↔P d p q):=by
 have hd:0<d:=by have:=h.1;omega
 have n1:a*a≠d*b*b:=fun e=>h1 (h.Ht e)
 have n2:p*p≠d*q*q:=fun e=>h2 (h.Ht e)
 have pz:∀{u v:Int},d*v*v<u*u->u≠0:=fun {u v} e z=>by subst z;have:=dsq (b:=v) hd;simp at e;omega
 have qz:∀{u v:Int},u*u<d*v*v->v≠0:=fun {u v} e z=>by subst z;have:=sq_nonneg u;simp at e;omega
 have id1:(a*p+d*b*q)*(a*p+d*b*q)-d*(a*q+b*p)*(a*q+b*p)=(a*a-d*b*b)*(p*p-d*q*q):=by grind
 rcases lt_or_gt_of_ne n1 with c1|c1<;>rcases lt_or_gt_of_ne n2 with c2|c2
 ·have pp:=Int.mul_pos_of_neg_of_neg (show a*a-d*b*b<0 by omega) (show p*p-d*q*q<0 by omega)
  rw[pT h ∅,ml h c1,ml h c2]
  have sq:(a*p)*(a*p)<(d*b*q)*(d*b*q):=by
   have e2:=zT (sq_nonneg a) c1 (sq_nonneg p) c2
   grind
  rw[Int.add_comm,uM sq,Int.mul_assoc,mul_pos_iff ∅ (mul_ne_zero (qz c1) (qz c2)),mul_pos_iff (qz c1) (qz c2)]
  omega
 ·have pp:=Int.mul_neg_of_neg_of_pos (show a*a-d*b*b<0 by omega) (show 0<p*p-d*q*q by omega)
  rw[ml h ∅,ml h c1,pT h c2]
  have sq:(a*q)*(a*q)<(b*p)*(b*p):=by
   have e2:=zT (sq_nonneg a) c1 (dsq (b:=q) hd) c2
   have e3:d*((a*q)*(a*q))<d*((b*p)*(b*p)):=by grind
   exact Int.lt_of_mul_lt_mul_left e3 (le_of_lt hd)
  rw[Int.add_comm,uM sq,mul_pos_iff (qz c1) (pz c2)]
 ·have pp:=Int.mul_neg_of_pos_of_neg (show 0<a*a-d*b*b by omega) (show p*p-d*q*q<0 by omega)
  rw[ml h ∅,pT h c1,ml h c2]
  have sq:(b*p)*(b*p)<(a*q)*(a*q):=by
   have e2:=zT (dsq (b:=b) hd) c1 (sq_nonneg p) c2
   have e3:d*((b*p)*(b*p))<d*((a*q)*(a*q)):=by grind
   exact Int.lt_of_mul_lt_mul_left e3 (le_of_lt hd)
  rw[uM sq,mul_pos_iff (pz c1) (qz c2)]
 ·have pp:=mul_pos (show 0<a*a-d*b*b by omega) (show 0<p*p-d*q*q by omega)
  rw[pT h ∅,pT h c1,pT h c2]
  have sq:(d*b*q)*(d*b*q)<(a*p)*(a*p):=by
   have e2:=zT (dsq (b:=b) hd) c1 (dsq (b:=q) hd) c2
   grind
  rw[uM sq,mul_pos_iff (pz c1) (pz c2)]
theorem Tz{d A x B y:Int}(hd:0<d)(hA:0<=A)(hx:0<=x)(hB:0<=B)(hy:0<=y)(h1:A*A<=d*B*B)(h2:x*x<=d*y*y):A*x<=d*(B*y):=by
 refine P8 (mul_nonneg hA hx) ?_ (mul_nonneg (le_of_lt hd) (mul_nonneg hB hy))
 have:=Int.mul_le_mul h1 h2 (sq_nonneg x) (dsq hd)
 grind
theorem T1{d A x B y:Int}(hd:0<d)(hA:0<=A)(hx:0<=x)(hB:0<=B)(hy:0<=y)(h1:A*A<d*B*B)(h2:x*x<d*y*y):(A+x)*(A+x)<d*(B+y)*(B+y):=by
 have:=Tz hd hA hx hB hy (le_of_lt h1) (le_of_lt h2)
 grind
theorem T2{d A x B y:Int}(hd:0<d)(hA:0<=A)(hx:0<=x)(hB:0<=B)(hy:0<=y)(h1:d*B*B<A*A)(h2:d*y*y<x*x):d*(B+y)*(B+y)<(A+x)*(A+x):=by
 have:d*(B*y)<=A*x:=by
  refine P8 (mul_nonneg (le_of_lt hd) (mul_nonneg hB hy)) ?_ (mul_nonneg hA hx)
  have:=zT (dsq (b:=B) hd) h1 (dsq (b:=y) hd) h2
  grind
 grind
theorem Z1{d x1 y1 x2 y2:Int}(hd:0<d)(h1:x1*x1<d*y1*y1)(h2:d*y2*y2<x2*x2)(a1:0<=x2)(a2:x2<=x1)(a3:0<=y1)(a4:y1<=y2):False:=by
 have e1:=Int.mul_le_mul a2 a2 a1 (Int.le_trans a1 a2)
 have e2:=Int.mul_le_mul_of_nonneg_left (Int.mul_le_mul a4 a4 a3 (Int.le_trans a3 a4)) (le_of_lt hd)
 grind
theorem Z2{d x1 y1 x2 y2 x3 y3:Int}(hd:0<d)(h1:x1*x1<d*y1*y1)(h2:d*y2*y2<x2*x2)(h3:d*y3*y3<x3*x3)(a1:0<=x2)(a2:0<=y2)(a3:0<=x3)(a4:0<=y3)(e1:x1=x2+x3)(e2:y1=y2+y3):False:=by
 subst e1 e2
 have:=T2 hd a1 a3 a2 a4 h2 h3
 omega
theorem Z3{d x1 y1 x2 y2 x3 y3:Int}(hd:0<d)(h1:d*y1*y1<x1*x1)(h2:x2*x2<d*y2*y2)(h3:x3*x3<d*y3*y3)(a1:0<=x2)(a2:0<=y2)(a3:0<=x3)(a4:0<=y3)(e1:x1=x2+x3)(e2:y1=y2+y3):False:=by
 subst e1 e2
 have:=T1 hd a1 a3 a2 a4 h2 h3
 omega
theorem SV{d a b p q u v:Int}(h:aH d)(h1:P d a b)(h2:P d p q)(h3:P d u v)(e1:a+p+u=0)(e2:b+q+v=0):False:=by
 have hd:0<d:=by have:=h.1;omega
 unfold P at h1 h2 h3
 have x1:∀{u c:Int},u*u<c->-u * -u<c:=fun {u c} e=>by grind
 have x2:∀{u c:Int},c<u*u->c < -u * -u:=fun {u c} e=>by grind
 have x3:∀{u c:Int},c<d*u*u->c<d * -u * -u:=fun {u c} e=>by grind
 have x4:∀{u c:Int},d*u*u<c->d * -u * -u<c:=fun {u c} e=>by grind
 rcases h1 with ⟨u1,u2,u3⟩|⟨u1,u2,u3⟩|⟨u1,u2,u3⟩<;>rcases h2 with ⟨v1,v2,v3⟩|⟨v1,v2,v3⟩|⟨v1,v2,v3⟩<;>rcases h3 with ⟨w1,w2,w3⟩|⟨w1,w2,w3⟩|⟨w1,w2,w3⟩<;>(try omega)
 all_goals first
  |exact Z1 hd (x1 u3) (x4 v3) ∅ ∅ ∅ ∅
  |exact Z1 hd (x1 v3) (x4 u3) ∅ ∅ ∅ ∅
  |exact Z1 hd (x1 u3) (x4 w3) ∅ ∅ ∅ ∅
  |exact Z1 hd (x1 w3) (x4 u3) ∅ ∅ ∅ ∅
  |exact Z1 hd (x1 v3) (x4 w3) ∅ ∅ ∅ ∅
  |exact Z1 hd (x1 w3) (x4 v3) ∅ ∅ ∅ ∅
  |exact Z2 hd (x1 u3) (x4 v3) (x4 w3) ∅ ∅ ∅ ∅ ∅ ∅
  |exact Z2 hd (x1 v3) (x4 u3) (x4 w3) ∅ ∅ ∅ ∅ ∅ ∅
  |exact Z2 hd (x1 w3) (x4 u3) (x4 v3) ∅ ∅ ∅ ∅ ∅ ∅
  |exact Z3 hd (x4 u3) (x1 v3) (x1 w3) ∅ ∅ ∅ ∅ ∅ ∅
  |exact Z3 hd (x4 v3) (x1 u3) (x1 w3) ∅ ∅ ∅ ∅ ∅ ∅
  |exact Z3 hd (x4 w3) (x1 u3) (x1 v3) ∅ ∅ ∅ ∅ ∅ ∅
theorem Uj{d a b p q:Int}(h:aH d)(h1:P d a b)(h2:P d p q):P d (a+p) (b+q):=by
 rcases SQ (a:=a+p) (b:=b+q) h with ⟨e1,e2⟩|e|e
 ·have ea:p = -a:=by omega
  have eb:q = -b:=by omega
  subst ea eb
  have s1:=(kZ h).mpr h1
  have s2:=(kZ h).mpr h2
  rw[Ad h,s1] at s2
  omega
 ·exact e
 ·exact (SV h h1 h2 e ∅ ∅).elim
theorem Hy{d a b p q:Int}(h:aH d):sg d (a*p+d*b*q) (a*q+b*p)=sg d a b*sg d p q:=by
 by_cases h1:a=0/\b=0
 ·obtain⟨rfl,rfl⟩:=h1
  have e:sg d (0:Int) 0=0:=eU.mpr ⟨rfl,rfl⟩
  rw[e];simp[eU]
 by_cases h2:p=0/\q=0
 ·obtain⟨rfl,rfl⟩:=h2
  have e:sg d (0:Int) 0=0:=eU.mpr ⟨rfl,rfl⟩
  rw[e];simp[eU]
 have k:=Tw h h1 h2
 have h3:¬ (a*p+d*b*q=0/\a*q+b*p=0):=fun ⟨e1,e2⟩=>by
  have id1:(a*p+d*b*q)*(a*p+d*b*q)-d*(a*q+b*p)*(a*q+b*p)=(a*a-d*b*b)*(p*p-d*q*q):=by grind
  rw[e1,e2] at id1
  simp only[Int.mul_zero,Int.sub_self] at id1
  rcases Int.mul_eq_zero.mp id1.symm with z|z
  ·exact h1 (h.Ht ∅)
  ·exact h2 (h.Ht ∅)
 rw[<- kZ h,<- kZ h,<- kZ h] at k
 have t1:=oB d a b
 have t2:=oB d p q
 have t3:=oB d (a*p+d*b*q) (a*q+b*p)
 have z1:sg d a b≠0:=fun z=>h1 (eU.mp z)
 have z2:sg d p q≠0:=fun z=>h2 (eU.mp z)
 have z3:sg d (a*p+d*b*q) (a*q+b*p)≠0:=fun z=>h3 (eU.mp z)
 rcases t1 with e|e|e<;>rcases t2 with f|f|f<;>rcases t3 with g|g|g<;>simp_all
theorem lH{d a b k:Int}(h:aH d)(hk:0<k):sg d (k*a) (k*b)=sg d a b:=by
 have e:=Hy (a:=k) (b:=0) (p:=a) (q:=b) h
 have e1:sg d k 0=1:=by unfold sg;rw[if_neg ∅,if_pos ∅]
 rw[e1] at e
 simpa using e
end NM
namespace L2
open PySem PySem.Spec PyProof.Rows
section
variable {X:Cx}{pins:List (Addr×Obj)}{σ:St}{H:Hp}{s:Shared}{a:Addr}{y v:V}{u r:Value}{o:Option V}{A:Around}{E:Value->Shared->Prop}
theorem Inv.big(I:Inv X pins σ H s):sysModules<s.heap.objs.size:=by
 have h:mainGlobals<s.heap.objs.size:=(I.mod.glob.keeps I.bk).lt
 exact Nat.lt_trans ⋯ h
theorem Cq{h':Heap}{t':Nat}{ob:HO}(I:Inv X pins σ H s)(mu:Mut (H a))(hs:Heap.SameBut a s.heap h')(he:∃q,h'.get? a=some q)(new:iM X.prog X.w (upd H a ob) h' a ob) :
  Inv X pins σ (upd H a ob) {s with heap:=h',toks:=t'}:=
 I.write (x:=a) (e:=a) mu (.inl rfl) (fun b q hb z=>(hs.2 b hb).trans z) he new
end
noncomputable def T8(i:Expr):Prop:=∀ov iv,subscripted i false ov iv=operate [ov,iv] (getItem ov iv)
theorem Pd{prog:Program}{w:World}{A:Around}{E:Value->Shared->Prop}{s:Shared}{env:Env}{value slice:Expr}{pos:Pos}{T id:String}{Q:Value->Shared->Prop}
  (hl:typeLookup (.type T) "__getitem__"=pure (some (.builtin id))) (hs:T8 slice)
  (h:wpAny (model prog w) A (eval value env) (fun o dl=>wpAny (model prog w) A (eval slice env) (fun i jp=>jp.TypeIs o T/\wpAny (model prog w) A (getItem o i) Q E jp) E dl) E s) :
  wpAny (model prog w) A (eval (.Subscript value slice pos) env) Q E s:=by
 refine Subscript_ (wpAny_mono h (fun o dl kw=>wpAny_mono kw (fun i jp sB=>?_) fun _ _ x=>x) fun _ _ x=>x)
 obtain⟨hT,sB⟩:=sB
 unfold subscriptTail
 refine wpAny_bind ?_
 rw[getitemInPython_of_ne hT.not_modules]
 refine wpAny_bind (wpAny_specialOf hT hl ?_)
 have fin:wpAny (model prog w) A (subscripted slice false o i) (fun r bv=>wpAny (model prog w) A (letTemporaryGo value o r>>=fun _=>pure r) Q E bv) E jp:=by
  rw[hs o i]
  exact wpAny_operating (wpAny_mono sB (fun r bv u8=>wpAny_bind (wpAny_letTemporaryGo (wpAny_pure u8))) fun _ _ x=>x)
 first
  |exact wpAny_pure (wpAny_bind fin)
  |exact wpAny_bind (wpAny_pure (wpAny_bind fin))
  |exact wpAny_bind fin
structure M1(X:Cx)(o:Expr)(m:Str)(apos:Pos)(e:Expr)(cpos:Pos):Prop where
 base:attributeBase o m X.env (eval o X.env)=eval o X.env
 few:((backTo cpos (starEach [e] X.env)).all (fun x=>!x.1)&&(backToKw cpos (keywordEach [] X.env)).all (fun x=>x.1.isSome)
  && decide (([e]:List Expr).length+([]:List Keyword).length+(if ([]:List Keyword).isEmpty then 0 else 1)<30))=true
 line:(apos.endLine==cpos.line)=true
 trees:backTo cpos (starEach [e] X.env)=[(false,eval e X.env)]
end L2
namespace NM
structure Rep(x:N3)(A B C:Int):Prop where
 c:C≠0
 a:x.a*C=A*x.c
 b:x.b*C=B*x.c
section
variable {x y:N3}{A B C A' B' C' d:Int}
theorem aJ(h:Ok x):Rep x x.a x.b x.c:=⟨h.cn,rfl,rfl⟩
theorem cV{a b c:Int}(h:c≠0):Rep (low a b c) a b c:=by
 obtain⟨k,hk,_,p1,p2,p3,_⟩:=oO a b h
 generalize low a b c=z at *
 exact⟨h,by grind,by grind⟩
theorem Rep.eq(ox:Ok x)(oy:Ok y)(h:Rep x A B C)(g:Rep y A' B' C')(e1:A*C'=A'*C)(e2:B*C'=B'*C):x=y:=by
 have hc:C*C'≠0:=mul_ne_zero h.c g.c
 obtain⟨_,h1,h2⟩:=h
 obtain⟨_,g1,g2⟩:=g
 exact ox.same oy (eq_of_mul_eq_mul_right hc (by grind)) (eq_of_mul_eq_mul_right hc (by grind))
theorem Rep.minus(h:Rep x A B C):Rep (minus x) (-A) (-B) C:=⟨h.c,by show -x.a*C = -A*x.c;have:=h.a;grind,by show -x.b*C = -B*x.c;have:=h.b;grind⟩
theorem Rep.plus(ox:Ok x)(oy:Ok y)(h:Rep x A B C)(g:Rep y A' B' C'):Rep (plus x y) (A*C'+A'*C) (B*C'+B'*C) (C*C'):=by
 have hc:=yw ox oy
 obtain⟨_,q1,q2⟩:=cV (a:=x.a*y.c+y.a*x.c) (b:=x.b*y.c+y.b*x.c) hc
 obtain⟨hc1,h1,h2⟩:=h
 obtain⟨hc2,g1,g2⟩:=g
 change (NM.plus x y).a*(x.c*y.c)=_*(NM.plus x y).c at q1
 change (NM.plus x y).b*(x.c*y.c)=_*(NM.plus x y).c at q2
 generalize NM.plus x y=z at *
 exact⟨mul_ne_zero hc1 hc2,eq_of_mul_eq_mul_right hc (by grind),eq_of_mul_eq_mul_right hc (by grind)⟩
theorem Rep.less(ox:Ok x)(oy:Ok y)(h:Rep x A B C)(g:Rep y A' B' C'):Rep (less x y) (A*C'-A'*C) (B*C'-B'*C) (C*C'):=by
 have hc:=yw ox oy
 obtain⟨_,q1,q2⟩:=cV (a:=x.a*y.c-y.a*x.c) (b:=x.b*y.c-y.b*x.c) hc
 obtain⟨hc1,h1,h2⟩:=h
 obtain⟨hc2,g1,g2⟩:=g
 change (NM.less x y).a*(x.c*y.c)=_*(NM.less x y).c at q1
 change (NM.less x y).b*(x.c*y.c)=_*(NM.less x y).c at q2
 generalize NM.less x y=z at *
 exact⟨mul_ne_zero hc1 hc2,eq_of_mul_eq_mul_right hc (by grind),eq_of_mul_eq_mul_right hc (by grind)⟩
theorem Rep.times(ox:Ok x)(oy:Ok y)(h:Rep x A B C)(g:Rep y A' B' C'):Rep (times d x y) (A*A'+d*B*B') (A*B'+B*A') (C*C'):=by
 have hc:=yw ox oy
 obtain⟨_,q1,q2⟩:=cV (a:=x.a*y.a+d*x.b*y.b) (b:=x.a*y.b+x.b*y.a) hc
 obtain⟨hc1,h1,h2⟩:=h
 obtain⟨hc2,g1,g2⟩:=g
 change (NM.times d x y).a*(x.c*y.c)=_*(NM.times d x y).c at q1
 change (NM.times d x y).b*(x.c*y.c)=_*(NM.times d x y).c at q2
 generalize NM.times d x y=z at *
 exact⟨mul_ne_zero hc1 hc2,eq_of_mul_eq_mul_right hc (by grind),eq_of_mul_eq_mul_right hc (by grind)⟩
theorem Rep.norm(h:Rep x A B C):NM.norm d x*(C*C)=(A*A-d*B*B)*(x.c*x.c):=by
 obtain⟨_,h1,h2⟩:=h
 unfold NM.norm
 have e1:x.a*x.a*(C*C)=A*A*(x.c*x.c):=by
  have:(x.a*C)*(x.a*C)=(A*x.c)*(A*x.c):=by rw[h1]
  grind
 have e2:x.b*x.b*(C*C)=B*B*(x.c*x.c):=by
  have:(x.b*C)*(x.b*C)=(B*x.c)*(B*x.c):=by rw[h2]
  grind
 grind
theorem Rep.bb(ox:Ok x)(hn:NM.norm d x≠0)(h:Rep x A B C):Rep (bb d x) (C*A) (-C*B) (A*A-d*B*B):=by
 have hN:=h.norm (d:=d)
 have hcc:x.c*x.c≠0:=mul_ne_zero ox.cn ox.cn
 have hN0:A*A-d*B*B≠0:=fun z=>by
  rw[z,Int.zero_mul] at hN
  rcases Int.mul_eq_zero.mp hN with w|w
  ·exact hn w
  ·rcases Int.mul_eq_zero.mp w with w|w<;>exact h.c w
 obtain⟨_,q1,q2⟩:=cV (a:=x.c*x.a) (b:=-x.c*x.b) hn
 change (NM.bb d x).a*NM.norm d x=_*(NM.bb d x).c at q1
 change (NM.bb d x).b*NM.norm d x=_*(NM.bb d x).c at q2
 obtain⟨hc1,h1,h2⟩:=h
 generalize NM.bb d x=z at *
 generalize NM.norm d x=n at *
 generalize A*A-d*B*B=m at *
 refine⟨hN0,?_,?_⟩
 ·have e:z.a*m*(x.c*x.c)=C*A*z.c*(x.c*x.c):=by grind
  exact eq_of_mul_eq_mul_right hcc e
 ·have e:z.b*m*(x.c*x.c) = -C*B*z.c*(x.c*x.c):=by grind
  exact eq_of_mul_eq_mul_right hcc e
theorem Rep.sg(hd:aH d)(ox:Ok x)(h:Rep x A B C)(hC:0<C):sg d x.a x.b=NM.sg d A B:=by
 have e1:=lH (a:=x.a) (b:=x.b) hd hC
 have e2:=lH (a:=A) (b:=B) hd ox.c
 rw[show C*x.a=x.c*A by have:=h.a;grind,show C*x.b=x.c*B by have:=h.b;grind] at e1
 rw[<- e1,e2]
end
end NM
namespace NM
noncomputable def IC(d:Int)(x:N3):N3:=times d (times d (plus x (Ou x)) (plus x (Ou x))) (bb d (times d x (Ou x)))
section
variable {d:Int}{x y z:N3}
theorem N4{a b c:Int}(h:aH d)(hc:0<c):sg d (low a b c).a (low a b c).b=sg d a b:=(cV (show c≠0 by omega)).sg h (eG _ _ ∅) hc
theorem Kr(h:aH d)(ox:Ok x)(oy:Ok y):sg d (times d x y).a (times d x y).b=sg d x.a x.b*sg d y.a y.b:=by
 unfold times
 rw[N4 h (mul_pos ox.c oy.c),Hy h]
theorem OG:sg d one.a one.b=1:=by
 unfold one sg
 rw[if_neg (by simp),if_pos (by simp)]
theorem Nh(h:aH d)(ox:Ok x)(hx:sg d x.a x.b=1):norm d x≠0:=h.norm ox (fun e=>by subst e;have:sg d ay.a ay.b=0:=eU.mpr ⟨rfl,rfl⟩;omega)
theorem gv(ox:Ok x)(hn:norm d x≠0):times d x (bb d x)=one:=by
 have oc:=bB hn
 exact ((aJ ox).times ox oc ((aJ ox).bb ox hn)).eq (aV ox oc) vi (aJ vi) (by simp only[one];grind) (by simp only[one];grind)
theorem FG(h:aH d)(ox:Ok x)(hx:sg d x.a x.b=1):sg d (bb d x).a (bb d x).b=1:=by
 have hn:=Nh h ox hx
 have e:=Kr h ox (bB hn)
 rw[gv ox hn,OG,hx] at e
 omega
theorem RI{n:Int}:sg d n 0=if n=0 then 0 else if 0<n then 1 else -1:=by
 unfold sg
 by_cases h:n=0
 ·simp[h]
 ·rcases lt_or_gt_of_ne h with z|z
  ·rw[if_neg ∅,if_neg ∅,if_pos ∅,if_neg h,if_neg ∅]
  ·rw[if_neg ∅,if_pos ∅,if_neg h,if_pos ∅]
noncomputable def W(x y:N3):Int:=x.b*y.a-x.a*y.b
noncomputable def OI(d:Int)(x y:N3):Int:=sg d (x.a*y.c-y.a*x.c) (x.b*y.c-y.b*x.c)
theorem L5(ox:Ok x)(oy:Ok y)(e:OI d x y=0):x=y:=by
 obtain⟨h1,h2⟩:=eU.mp e
 exact ox.same oy ∅ ∅
end
end NM
namespace NM
end NM
namespace NM
section
variable {d:Int}{x y z:N3}
noncomputable def gtL(d:Int)(k o:N3):Prop:=((IC d o).a.natAbs:Int)*(IC d k).c<((IC d k).a.natAbs:Int)*(IC d o).c
noncomputable instance:Decidable (gtL d x y):=by unfold gtL;infer_instance
end
end NM
set_option maxHeartbeats 1000000
namespace NM
end NM
set_option maxHeartbeats 4000000
namespace NM
end NM
set_option maxHeartbeats 400000
namespace NM
end NM
namespace NM
end NM
set_option maxHeartbeats 4000000
namespace NM
section
variable {d:Int}{x y z u p q s t w h p' q' s' t' w' h':N3}
theorem M7:Ok one:=⟨⋯,⋯⟩
theorem U3(ox:Ok x):times d one x=x:=
 ((aJ M7).times M7 ox (aJ ox)).eq (aV M7 ox) ox (aJ ox) (by simp only[one];grind) (by simp only[one];grind)
noncomputable def hf(d:Int)(p q h:N3):N3:=plus (times d p h) (times d q (Ou h))
end
end NM
set_option maxHeartbeats 400000
namespace NM
section
variable {d:Int}{x y z k s o f u v:N3}
theorem zv(ox:Ok x)(oy:Ok y):times d x y=times d y x:=
 Rep.eq (aV ox oy) (aV oy ox) (Rep.times ox oy (aJ ox) (aJ oy)) (Rep.times oy ox (aJ oy) (aJ ox)) (by grind) (by grind)
theorem CS(ox:Ok x)(oy:Ok y)(oz:Ok z):times d (times d x y) z=times d x (times d y z):=
 Rep.eq (aV (aV ox oy) oz) (aV ox (aV oy oz)) (Rep.times (aV ox oy) oz (Rep.times ox oy (aJ ox) (aJ oy)) (aJ oz)) (Rep.times ox (aV oy oz) (aJ ox) (Rep.times oy oz (aJ oy) (aJ oz))) (by grind) (by grind)
theorem Gi(ox:Ok x):times d x one=x:=by rw[zv ox vi,U3 ox]
end
end NM
set_option maxHeartbeats 4000000
namespace GR
theorem pig{α:Type}[DecidableEq α]{l m:List α}(hn:l.Nodup)(hs:∀x∈l,x∈m):l.length<=m.length:=by
 induction l generalizing m with
 |nil=>exact zero_le _
 |cons a l ih=>
  obtain⟨h1,h2⟩:=List.nodup_cons.mp hn
  have hm:a∈m:=hs a mem_cons_self
  have:=ih (m:=m.erase a) h2 fun x hx=>(List.mem_erase_of_ne (show x≠a from fun e=>h1 (e▸hx))).mpr (hs x (mem_cons_of_mem _ hx))
  rw[List.length_erase_of_mem hm] at this
  have:0<m.length:=List.length_pos_of_mem hm
  simp only[length_cons]
  omega
theorem Px{α:Type}[DecidableEq α]{l m:List α}(hn:l.Nodup)(hs:∀x∈l,x∈m)(hl:m.length<=l.length){x:α}(hx:x∈m):x∈l:=by
 by_cases c:x∈l
 ·exact c
 ·have:=pig (l:=x::l) (m:=m) (List.nodup_cons.mpr ⟨c,hn⟩) fun y hy=>by
   rcases List.mem_cons.mp hy with rfl|hy
   ·exact hx
   ·exact hs y hy
  simp only[length_cons] at this
  omega
theorem Uz{α:Type}[DecidableEq α]{l m:List α}(hn:l.Nodup)(hm:m.Nodup)(h:∀x,x∈l↔x∈m):l.length=m.length:=
 Nat.le_antisymm (pig hn fun x=>(h x).mp) (pig hm fun x=>(h x).mpr)
structure Bx where
 l:Nat
 r:Nat
 b:Nat
 t:Nat
noncomputable def Bx.has(q:Bx)(i j:Nat):Prop:=q.l<=i/\i<q.r/\q.b<=j/\j<q.t
noncomputable def run(a b:Nat):List Nat:=(List.range (b-a)).map (a + ·)
theorem Oz{a b x:Nat}:x∈run a b↔a<=x/\x<b:=by
 unfold run
 simp only[mem_map,List.mem_range]
 constructor
 ·rintro ⟨k,h,rfl⟩;omega
 ·rintro ⟨h1,h2⟩;exact⟨x-a,∅,∅⟩
theorem B0{a b:Nat}:(run a b).Nodup:=by
 unfold run
 refine List.Pairwise.map _ (fun x y h e=>h ∅) List.nodup_range
theorem qe{a b:Nat}:(run a b).length=b-a:=by simp[run]
noncomputable def cellsOf(q:Bx):List (Nat×Nat):=(run q.l q.r).flatMap fun i=>(run q.b q.t).map fun j=>(i,j)
theorem bO{q:Bx}{i j:Nat}:(i,j)∈cellsOf q↔q.has i j:=by
 unfold cellsOf Bx.has
 simp only[List.mem_flatMap,mem_map,Oz,Prod.mk.injEq]
 constructor
 ·rintro ⟨a,⟨h1,h2⟩,b,⟨h3,h4⟩,rfl,rfl⟩;exact⟨h1,h2,h3,h4⟩
 ·rintro ⟨h1,h2,h3,h4⟩;exact⟨i,⟨h1,h2⟩,j,⟨h3,h4⟩,rfl,rfl⟩
theorem zf{α β:Type}{f:α->List β}{l:List α}:(l.flatMap f).Nodup↔(∀x∈l,(f x).Nodup)/\l.Pairwise fun a b=>∀y∈f a,y ∉ f b:=by
 induction l with
 |nil=>simp
 |cons a l ih=>
  rw[flatMap_cons,List.nodup_append,ih,List.pairwise_cons]
  constructor
  ·rintro ⟨h1,⟨h2,h3⟩,h4⟩
   refine⟨fun x hx=>?_,fun b hb y hy hz=>h4 y hy y (List.mem_flatMap.mpr ⟨b,hb,hz⟩) rfl,h3⟩
   rcases List.mem_cons.mp hx with rfl|hx
   ·exact h1
   ·exact h2 x hx
  ·rintro ⟨h1,h2,h3⟩
   refine⟨h1 a mem_cons_self,⟨fun x hx=>h1 x (mem_cons_of_mem _ hx),h3⟩,fun y hy z hz e=>?_⟩
   obtain⟨b,hb,hz⟩:=List.mem_flatMap.mp hz
   exact h2 b hb y hy (e▸hz)
theorem qU(q:Bx):(cellsOf q).Nodup:=by
 unfold cellsOf
 rw[zf]
 refine⟨fun x _=>List.Pairwise.map _ (fun a b h e=>h (by injection e)) B0,?_⟩
 refine List.Pairwise.imp (fun {a b} h y hy hz=>?_) (B0 (a:=q.l) (b:=q.r))
 obtain⟨j,_,rfl⟩:=List.mem_map.mp hy
 obtain⟨k,_,e⟩:=List.mem_map.mp hz
 injection e with e1 e2
 exact h e1.symm
noncomputable def cells(qs:List Bx):List (Nat×Nat):=qs.flatMap cellsOf
noncomputable def Apart(q p:Bx):Prop:=∀i j,q.has i j->¬ p.has i j
theorem Apart.symm{q p:Bx}(h:Apart q p):Apart p q:=fun i j h1 h2=>h i j h2 h1
theorem oS{qs:List Bx}:(cells qs).Nodup↔qs.Pairwise Apart:=by
 unfold cells
 rw[zf]
 constructor
 ·rintro ⟨_,h⟩
  exact h.imp fun {a b} z i j h1 h2=>z (i,j) (bO.mpr h1) (bO.mpr h2)
 ·intro h
  exact⟨fun q _=>qU q,h.imp fun {a b} z y h1 h2=>z y.1 y.2 (bO.mp h1) (bO.mp h2)⟩
theorem jw{qs:List Bx}{i j:Nat}:(i,j)∈cells qs↔∃q∈qs,q.has i j:=by
 unfold cells
 simp only[List.mem_flatMap,bO]
noncomputable def vg(qs:List Bx)(C R:Nat):Bool:=decide (cells qs).Nodup&&decide ((cells qs).length=C*R)
theorem tG{C R:Nat}:(cellsOf ⟨0,C,0,R⟩).length=C*R:=by
 unfold cellsOf
 rw[List.length_flatMap]
 have:(fun i:Nat=>((run 0 R).map fun j=>(i,j)).length)=fun _=>R:=by funext i;rw[length_map,qe];rfl
 simp only[this,List.map_const',qe,List.sum_replicate_nat,Nat.sub_zero]
theorem Gm{qs:List Bx}{C R:Nat}(hin:∀q∈qs,q.r<=C/\q.t<=R):vg qs C R=true↔qs.Pairwise Apart/\∀i j,i<C->j<R->∃q∈qs,q.has i j:=by
 unfold vg
 rw[and_eq_true,decide_eq_true_iff,decide_eq_true_iff,oS]
 have sub:∀x∈cells qs,x∈cellsOf ⟨0,C,0,R⟩:=fun x hx=>by
  obtain⟨q,hq,h⟩:=jw.mp hx
  obtain⟨h1,h2⟩:=hin q hq
  exact bO.mpr ⟨zero_le _,lt_of_lt_of_le h.2.1 h1,zero_le _,lt_of_lt_of_le h.2.2.2 h2⟩
 constructor
 ·rintro ⟨h1,h2⟩
  refine⟨h1,fun i j hi hj=>?_⟩
  have:=Px (oS.mpr h1) sub (by rw[tG,h2];exact Nat.le_refl _) (x:=(i,j)) (bO.mpr ⟨zero_le _,hi,zero_le _,hj⟩)
  exact jw.mp this
 ·rintro ⟨h1,h2⟩
  refine⟨h1,?_⟩
  rw[<- tG]
  refine Uz (oS.mpr h1) (qU _) fun x=>⟨sub x,fun hx=>?_⟩
  obtain⟨_,hi,_,hj⟩:=bO.mp hx
  exact jw.mpr (h2 x.1 x.2 hi hj)
structure gO(qs:List Bx)(C R:Nat):Prop where
 fits:∀q∈qs,q.l<q.r/\q.r<=C/\q.b<q.t/\q.t<=R
 apart:qs.Pairwise Apart
 all:∀i j,i<C->j<R->∃q∈qs,q.has i j
theorem gO.perm{qs ps:List Bx}{C R:Nat}(h:gO qs C R)(p:ps.Perm qs):gO ps C R:=
 ⟨fun q hq=>h.fits q (p.mem_iff.mp hq),(p.pairwise_iff fun z=>z.symm).mpr h.apart,fun i j hi hj=>by
  obtain⟨q,hq,z⟩:=h.all i j hi hj
  exact⟨q,p.mem_iff.mpr hq,z⟩⟩
end GR
namespace GR
noncomputable abbrev Up(A:List Nat):Prop:=A.Pairwise (· < ·)
theorem dO{α:Type}[BEq α][LawfulBEq α]{A:List α}{a:α}(h:a∈A):A.idxOf a<A.length:=List.idxOf_lt_length_iff.mpr h
theorem ya{α:Type}[BEq α][LawfulBEq α]{A:List α}{a:α}(h:a∈A):A[A.idxOf a]'(dO h)=a:=List.getElem_idxOf (dO h)
theorem ML{A:List Nat}(hA:Up A){a i:Nat}(ha:a∈A)(hi:i<A.length):A.idxOf a<=i↔a<=A[i]:=by
 have e:=ya ha
 constructor
 ·intro h
  rcases lt_or_eq_of_le h with h|h
  ·have:=List.pairwise_iff_getElem.mp hA _ _ (dO ha) hi h
   omega
  ·have:A[A.idxOf a]'(dO ha)=A[i]:=by congr 1
   omega
 ·intro h
  rcases lt_or_ge i (A.idxOf a) with z|z
  ·have:=List.pairwise_iff_getElem.mp hA _ _ hi (dO ha) z
   omega
  ·exact z
theorem Qj{A:List Nat}(hA:Up A){a i:Nat}(ha:a∈A)(hi:i<A.length):i<A.idxOf a↔A[i]<a:=by
 have:=ML hA ha hi
 omega
noncomputable def cb(A B:List Nat)(q:Bx):Bx:=⟨A.idxOf q.l,A.idxOf q.r,B.idxOf q.b,B.idxOf q.t⟩
structure OnG(A B:List Nat)(q:Bx):Prop where
 l:q.l∈A
 r:q.r∈A
 b:q.b∈B
 t:q.t∈B
theorem GZ{A B:List Nat}(hA:Up A)(hB:Up B){q:Bx}(g:OnG A B q){i j:Nat}(hi:i<A.length)(hj:j<B.length):(cb A B q).has i j↔q.has A[i] B[j]:=by
 unfold Bx.has cb
 rw[ML hA g.l hi,Qj hA g.r hi,ML hB g.b hj,Qj hB g.t hj]
theorem Q6{A B:List Nat}(hA:Up A)(hB:Up B){qs:List Bx}{C R:Nat}(hc:gO qs C R)(g:∀q∈qs,OnG A B q)(hAC:∀a∈A,a<=C)(hBR:∀b∈B,b<=R):vg (qs.map (cb A B)) (A.length-1) (B.length-1)=true:=by
 refine (Gm ?_).mpr ⟨?_,?_⟩
 ·intro q hq
  obtain⟨q,hq2,rfl⟩:=List.mem_map.mp hq
  have a:=dO (g q hq2).r
  have b:=dO (g q hq2).t
  unfold cb
  dsimp only
  omega
 ·rw[pairwise_map]
  refine List.Pairwise.imp_of_mem (fun {q p} hq hp h i j h1 h2=>?_) hc.apart
  have gq:=g q hq
  have hi:i<A.length:=Nat.lt_trans h1.2.1 (dO gq.r)
  have hj:j<B.length:=Nat.lt_trans h1.2.2.2 (dO gq.t)
  exact h _ _ ((GZ hA hB gq hi hj).mp h1) ((GZ hA hB (g p hp) hi hj).mp h2)
 ·intro i j hi hj
  have a1:A[i]<A[i+1]:=List.pairwise_iff_getElem.mp hA _ _ ∅ ∅ ∅
  have a2:=hAC A[i+1] (getElem_mem _)
  have b1:B[j]<B[j+1]:=List.pairwise_iff_getElem.mp hB _ _ ∅ ∅ ∅
  have b2:=hBR B[j+1] (getElem_mem _)
  obtain⟨q,hq,h⟩:=hc.all A[i] B[j] ∅ ∅
  exact⟨_,mem_map_of_mem hq,(GZ hA hB (g q hq) ∅ ∅).mpr h⟩
theorem gO.ends{qs:List Bx}{C R:Nat}(h:gO qs C R)(hC:0<C)(hR:0<R):(∃q∈qs,q.l=0)/\(∃q∈qs,q.r=C)/\(∃q∈qs,q.b=0)/\(∃q∈qs,q.t=R):=by
 obtain⟨q,hq,h1⟩:=h.all 0 0 hC hR
 obtain⟨p,hp,h2⟩:=h.all (C-1) (R-1) ∅ ∅
 have f:=h.fits p hp
 refine⟨⟨q,hq,?_⟩,⟨p,hp,?_⟩,⟨q,hq,?_⟩,⟨p,hp,?_⟩⟩<;>unfold Bx.has at h1 h2<;>omega
structure Laid(qs:List Bx)(C R x y:Nat):Prop where
 fits:∀q∈qs,q.l<q.r/\q.r<=C/\q.b<q.t/\q.t<=R/\q.b<=y
 apart:qs.Pairwise Apart
 below:∀i j,i<C->j<y->∃q∈qs,q.has i j
 before:∀i,i<x->i<C->∃q∈qs,q.has i y
theorem Laid.nil{C R:Nat}:Laid [] C R 0 0:=⟨fun _ h=>absurd h not_mem_nil,.nil,fun _ _ _ h=>absurd h (not_lt_zero _),fun _ h=>absurd h (not_lt_zero _)⟩
theorem Laid.row{qs:List Bx}{C R y:Nat}(h:Laid qs C R C y):Laid qs C R 0 (y+1):=
 ⟨fun q hq=>by have:=h.fits q hq;omega,h.apart,fun i j hi hj=>by
  rcases lt_or_eq_of_le (le_of_lt_succ hj) with z|z
  ·exact h.below i j hi z
  ·rw[z];exact h.before i hi hi,fun _ h=>absurd h (not_lt_zero _)⟩
theorem Laid.met{qs:List Bx}{C R x y:Nat}(h:Laid qs C R x y)(m:∃q∈qs,q.has x y):Laid qs C R (x+1) y:=
 ⟨h.fits,h.apart,h.below,fun i hi hc=>by
  rcases lt_or_eq_of_le (le_of_lt_succ hi) with z|z
  ·exact h.before i z hc
  ·rw[z];exact m⟩
theorem Laid.put{qs:List Bx}{C R x y w k:Nat}(h:Laid qs C R x y)(hw:0<w)(hk:0<k)(hx:x+w<=C)(hy:y+k<=R)(free:∀i,x<=i->i<x+w->∀q∈qs,¬ q.has i y):Laid (qs++[⟨x,x+w,y,y+k⟩]) C R (x+1) y:=by
 refine⟨fun q hq=>?_,?_,fun i j hi hj=>?_,fun i hi hc=>?_⟩
 ·rcases List.mem_append.mp hq with hq|hq
  ·exact h.fits q hq
  ·obtain rfl:=List.mem_singleton.mp hq
   dsimp only
   omega
 ·refine List.pairwise_append.mpr ⟨h.apart,List.pairwise_singleton _ _,fun a ha b hb i j h1 h2=>?_⟩
  obtain rfl:=List.mem_singleton.mp hb
  have f:=h.fits a ha
  unfold Bx.has at h1 h2
  dsimp only at h2
  exact free i h2.1 h2.2.1 a ha ⟨h1.1,h1.2.1,∅,∅⟩
 ·obtain⟨q,hq,z⟩:=h.below i j hi hj
  exact⟨q,mem_append_left _ hq,z⟩
 ·rcases lt_or_eq_of_le (le_of_lt_succ hi) with z|z
  ·obtain⟨q,hq,z⟩:=h.before i z hc
   exact⟨q,mem_append_left _ hq,z⟩
  ·exact⟨_,mem_append_right _ mem_cons_self,by subst z;unfold Bx.has;dsimp only;omega⟩
theorem Laid.done{qs:List Bx}{C R:Nat}(h:Laid qs C R 0 R):gO qs C R:=⟨fun q hq=>by have:=h.fits q hq;omega,h.apart,h.below⟩
end GR
namespace L2.DL
open PySem PySem.Spec PyProof.Rows
inductive Box where
 |dict (kvs:List (List Int×PyData))
 |set (ks:List (List Int))
structure Mu where
 l:Addr->Option (List PyData)
 b:Addr->Option Box
noncomputable instance:CoeFun Mu fun _=>Addr->Option (List PyData):=⟨Mu.l⟩
noncomputable abbrev PQ:=PySem.W.Frag->V->Mu->Hp->Prop
inductive D where
 |v (x:PyData)
 |m (a:Addr)
 |s (ns:List Int)
  /-- an object that is handed on -/
 |o (a:Addr)
  /-- a dict or a set -/
 |b (a:Addr)
  /-- a thing of which something is known that stays -/
 |q (P:PQ)
noncomputable abbrev Rho:=List (Option D)
noncomputable def aR(U:Mu)(a:Addr)(ds:List PyData):Mu:=⟨fun b=>if b=a then some ds else U b,U.b⟩
theorem aM{U:Mu}{a:Addr}{ds}:aR U a ds a=some ds:=if_pos rfl
theorem aT{U:Mu}{a b:Addr}{ds}(h:b≠a):aR U a ds b=U b:=if_neg h
noncomputable def bP(U:Mu)(a:Addr)(c:Box):Mu:=⟨U.l,fun b=>if b=a then some c else U.b b⟩
theorem br{U:Mu}{a:Addr}{c}:(bP U a c).b a=some c:=if_pos rfl
theorem bT{U:Mu}{a b:Addr}{c}(h:b≠a):(bP U a c).b b=U.b b:=if_neg h
theorem Mu.eq{U ν:Mu}(h1:∀b,U b=ν b)(h2:∀b,U.b b=ν.b b):U=ν:=by
 obtain⟨l,b⟩:=U;obtain⟨l',b'⟩:=ν
 cases (funext h1:l=l');cases (funext h2:b=b');rfl
theorem J0{U:Mu}{a:Addr}{c d}:bP (bP U a c) a d=bP U a d:=Mu.eq (fun _=>rfl) fun b=>by
 by_cases h:b=a
 ·subst h;rw[br,br]
 ·rw[bT h,bT h,bT h]
theorem ic{U:Mu}{a:Addr}{ds es}:aR (aR U a ds) a es=aR U a es:=Mu.eq (fun b=>by
 by_cases h:b=a
 ·subst h;rw[aM,aM]
 ·rw[aT h,aT h,aT h]) fun _=>rfl
mutual
inductive Rp(K:PySem.W.Frag)(U:Mu)(H:Hp):PyData->V->Prop
 |none:Rp K U H .none .non
 |bool (b:Bool):Rp K U H (.bool b) (.bl b)
 |int (i:Int):Rp K U H (.int i) (.int i)
 |str (x:Str):Rp K U H (.str x) (.str x)
 |list {a:Addr} {xs:List V} {ds:List PyData}:H a=some (.lst xs)->U a=Option.none->RpL K U H ds xs->Rp K U H (.list ds) (.ref a)
 |tuple {a:Addr} {xs:List V} {ds:List PyData}:SqT K H a xs->RpL K U H ds xs->Rp K U H (.tuple ds) (.ref a)
inductive RpL(K:PySem.W.Frag)(U:Mu)(H:Hp):List PyData->List V->Prop
 |nil:RpL K U H [] []
 |cons {d:PyData} {v:V} {ds:List PyData} {vs:List V}:Rp K U H d v->RpL K U H ds vs->RpL K U H (d::ds) (v::vs)
end
noncomputable def NT:HO->Prop
 |.tbl _=>False
 |.raw _=>False
 |_=>True
structure Ext(K:PySem.W.Frag)(U:Mu)(H:Hp)(Z:Mu)(H':Hp):Prop where
 keep:∀b o,H b=some o->U b=none->NT o->H' b=some o
 tb:∀b ps,H b=some (.tbl ps)->U b=none->∃ps',H' b=some (.tbl ps')
 dom:∀b ds,U b=some ds->∃es,Z b=some es
 fresh:∀b,U b=none->(H b≠none\/K.lookup b≠none)->Z b=none
 st:∀b o,H b=some o->U b=none->∃o',H' b=some o'
 bx:∀b c,U.b b=some c->∃c',Z.b b=some c'
noncomputable def RpD(K:PySem.W.Frag)(U:Mu)(H:Hp):D->V->Prop
 |.v x,u=>Rp K U H x u
 |.m a,u=>u = .ref a/\∃ds,U a=some ds
 |.s ns,u=>∃a,u = .ref a/\SqL K H a (ns.map V.int)/\U a=none
 |.o a,u=>u = .ref a
 |.b a,u=>u = .ref a/\∃c,U.b a=some c
 |.q P,u=>∀Z H',Ext K U H Z H'->P K u Z H'
noncomputable def codeAt(c:Addr)(q:Str)(h:Heap):Prop:=∃o vs t,h.get? c=some o/\o.data = .fields vs/\vs[1]? = some (.str q t)
noncomputable abbrev cj(q:Str):Str:=(q ++ ".<locals>.") ++ "<lambda>"
noncomputable def UY(H:Hp)(P:Addr)(q:Str):Prop:=∃ps:Array Value,H P=some (.tbl ps)/\TriplesOk ps.toList/\∀pos cv,codeAmong pos ps.toList=some cv->∃c,cv = .ref c/\H c=some (.ext (codeAt c (cj q)))
noncomputable def Ar(K:PySem.W.Frag)(H:Hp):Prop:=∀c o P q,K.lookup c=some o->bJ o=some (P,q)->UY H P q
noncomputable abbrev hI(ks:List Int):Int:=reduceHash (Builtin.Tuple.tupleHashOf (ks.map hashInt))
noncomputable def gE(K:PySem.W.Frag)(U:Mu)(H:Hp)(kvs:List (List Int×PyData))(xs:List (List Int×Addr×Value)):Prop:=
 Paired (fun (p:List Int×PyData) (q:List Int×Addr×Value)=>p.1=q.1/\SqT K H q.2.1 (p.1.map V.int)/\∃v,Rp K U H p.2 v/\RelV v q.2.2) kvs xs
noncomputable def iF(K:PySem.W.Frag)(U:Mu)(H:Hp):Box->Obj->Prop
 |.dict kvs,o=>kvs.length<=sizeLine/\o.ExactDict/\∃es ep,∃xs:List (List Int×Addr×Value),o.data = .dict es ep/\es.toList=xs.map (fun x=>⟨hI x.1,.ref x.2.1,x.2.2⟩)/\(xs.map (·.1)).Nodup/\gE K U H kvs xs
 |.set ks,o=>o.ExactSet/\∃(L:ST.Ln Value) (ep:Nat) (t:SetTable),o.data = .set (L.map (·.2)).toArray ep t/\ST.Tab t L/\L.length*5<t.mask*3/\L.length=ks.length /\
   (∀x∈L,∃k q,x.2.2 = .ref q/\SqT K H q (k.map V.int)/\x.2.1=hI k/\k∈ks)/\∀k∈ks,∃x∈L,∃q,x.2.2 = .ref q/\SqT K H q (k.map V.int)
structure bC(K:PySem.W.Frag)(U:Mu)(H:Hp):Prop where
 lst:∀a ds,U a=some ds->∃xs,H a=some (.lst xs)/\RpL K U H ds xs
 tab:Ar K H
 box:∀a c,U.b a=some c->(a==sysModules)=false/\∃o,H a=some (.raw o)/\iF K U H c o
noncomputable instance {K:PySem.W.Frag} {U:Mu} {H:Hp}:CoeFun (bC K U H) fun _=>∀a ds,U a=some ds->∃xs,H a=some (.lst xs)/\RpL K U H ds xs:=⟨bC.lst⟩
theorem Ar.of{K:PySem.W.Frag}{H H1:Hp}(t:Ar K H)(s:∀b o,H b=some o->(∀xs,o≠.lst xs)->(∀ob,o≠.raw ob)->H1 b=some o):Ar K H1:=fun c o P q h1 h2=>by
 obtain⟨ps,a1,a2,a3⟩:=t c o P q h1 h2
 exact⟨ps,s _ _ a1 (fun _ z=>nomatch z) (fun _ z=>nomatch z),a2,fun pos cv e=>let ⟨c,q1,q2⟩:=a3 pos cv e;⟨c,q1,s _ _ q2 (fun _ z=>nomatch z) (fun _ z=>nomatch z)⟩⟩
noncomputable def kh(K:PySem.W.Frag)(U:Mu)(H:Hp)(ρ:Rho)(σ:St):Prop:=
 ρ.length=σ.length/\∀(i:Nat) (d:D),ρ[i]? = some (some d)->∃u,σ[i]? = some (some u)/\RpD K U H d u
structure St0(K:PySem.W.Frag)(H:Hp)(ρ:Rho)(U:Mu)(σ:St):Prop where
 mu:bC K U H
 rho:kh K U H ρ σ
section
variable {K:PySem.W.Frag}{U ad am:Mu}{H H1 H2:Hp}
theorem Ext.refl:Ext K U H U H:=⟨fun _ _ h _ _=>h,fun _ ps h _=>⟨ps,h⟩,fun _ ds h=>⟨ds,h⟩,fun _ h _=>h,fun _ o h _=>⟨o,h⟩,fun _ c h=>⟨c,h⟩⟩
theorem Ext.trans(a:Ext K U H ad H1)(b:Ext K ad H1 am H2):Ext K U H am H2 where
 keep:=fun c o h n t=>b.keep c o (a.keep c o h n t) (a.fresh c n (.inl (by rw[h];exact fun z=>nomatch z))) t
 tb:=fun c ps h n=>by
  obtain⟨ps1,h1⟩:=a.tb c ps h n
  exact b.tb c ps1 h1 (a.fresh c n (.inl (by rw[h];exact fun z=>nomatch z)))
 dom:=fun c ds h=>let ⟨es,q⟩:=a.dom c ds h;b.dom c es q
 fresh:=fun c n h=>by
  refine b.fresh c (a.fresh c n h) ?_
  rcases h with h|h
  ·cases q:H c with
   |none=>exact absurd q h
   |some o=>
    obtain⟨o',h'⟩:=a.st c o q n
    exact .inl (by rw[h'];exact fun z=>nomatch z)
  ·exact .inr h
 st:=fun c o h n=>by
  obtain⟨o',h'⟩:=a.st c o h n
  exact b.st c o' h' (a.fresh c n (.inl (by rw[h];exact fun z=>nomatch z)))
 bx:=fun c x h=>let ⟨x',q⟩:=a.bx c x h;b.bx c x' q
theorem Ext.of_same(s:D0 H H1):Ext K U H U H1:=⟨fun b o h _ _=>s b o h,fun b ps h _=>⟨ps,s b _ h⟩,fun _ ds h=>⟨ds,h⟩,fun _ h _=>h,fun b o h _=>⟨o,s b o h⟩,fun _ c h=>⟨c,h⟩⟩
theorem bC.not{a:Addr}{o:HO}(ok:bC K U H)(h:H a=some o)(n:∀xs,o≠.lst xs):U a=none:=by
 cases q:U a with
 |none=>rfl
 |some ds=>
  obtain⟨ys,e,_⟩:=ok a ds q
  rw[h] at e
  exact absurd (Option.some.inj e) (n ys)
theorem bC.free{a:Addr}(ok:bC K U H)(h:H a=none):U a=none:=by
 cases q:U a with
 |none=>rfl
 |some ds=>
  obtain⟨ys,e,_⟩:=ok a ds q
  rw[h] at e;cases e
theorem mJ{a:Addr}{xs:List V}(ok:bC K U H)(e:Ext K U H ad H1)(h:SqT K H a xs):SqT K H1 a xs:=by
 rcases h with (h|⟨o,h⟩)|h
 ·exact .inl (.inl (e.keep _ _ h (ok.not h fun _ z=>nomatch z) trivial))
 ·exact .inl (.inr ⟨o,e.keep _ _ h (ok.not h fun _ z=>nomatch z) trivial⟩)
 ·exact .inr h
theorem Jx{a:Addr}{xs:List V}(e:Ext K U H ad H1)(h:SqL K H a xs)(n:U a=none):SqL K H1 a xs/\ad a=none:=by
 rcases h with (h|⟨o,h⟩)|h
 ·exact⟨.inl (.inl (e.keep _ _ h n trivial)),e.fresh _ n (.inl (by rw[h];exact fun z=>nomatch z))⟩
 ·exact⟨.inl (.inr ⟨o,e.keep _ _ h n trivial⟩),e.fresh _ n (.inl (by rw[h];exact fun z=>nomatch z))⟩
 ·obtain⟨o,its,k,hk,r⟩:=id h
  exact⟨.inr h,e.fresh _ n (.inr (by rw[hk];exact fun z=>nomatch z))⟩
mutual
theorem Rp.ext{d:PyData}{u:V}(ok:bC K U H)(e:Ext K U H ad H1):Rp K U H d u->Rp K ad H1 d u
 |.none=>.none
 |.bool b=>.bool b
 |.int i=>.int i
 |.str x=>.str x
 |.list h n r=>.list (e.keep _ _ h n trivial) (e.fresh _ n (.inl (by rw[h];exact fun z=>nomatch z))) (RpL.ext ok e r)
 |.tuple h r=>.tuple (mJ ok e h) (RpL.ext ok e r)
theorem RpL.ext{ds:List PyData}{us:List V}(ok:bC K U H)(e:Ext K U H ad H1):RpL K U H ds us->RpL K ad H1 ds us
 |.nil=>.nil
 |.cons h r=>.cons (Rp.ext ok e h) (RpL.ext ok e r)
end
theorem RpD.ext{d:D}{u:V}(ok:bC K U H)(e:Ext K U H ad H1)(r:RpD K U H d u):RpD K ad H1 d u:=by
 cases d with
 |v x=>exact Rp.ext ok e r
 |m a=>obtain⟨h,ds,q⟩:=r;exact⟨h,e.dom a ds q⟩
 |s ns=>obtain⟨a,h,q,n⟩:=r;exact⟨a,h,(Jx e q n).1,(Jx e q n).2⟩
 |o a=>exact r
 |b a=>obtain⟨h,c,q⟩:=r;exact⟨h,e.bx a c q⟩
 |q P=>exact fun Z H' e'=>r Z H' (e.trans e')
theorem iF.ext{c:Box}{o:Obj}(ok:bC K U H)(e:Ext K U H ad H1)(r:iF K U H c o):iF K ad H1 c o:=by
 cases c with
 |dict kvs=>
  obtain⟨h1,h2,es,ep,xs,h3,h4,h5,h6⟩:=r
  exact⟨h1,h2,es,ep,xs,h3,h4,h5,Paired.O5 h6 fun p q ⟨z1,z2,v,z3,z4⟩=>⟨z1,mJ ok e z2,v,Rp.ext ok e z3,z4⟩⟩
 |set ks=>
  obtain⟨h1,L,ep,t,h2,h3,h4,h5,h6,h7⟩:=r
  exact⟨h1,L,ep,t,h2,h3,h4,h5,fun x hx=>let ⟨k,q,z1,z2,z3⟩:=h6 x hx;⟨k,q,z1,mJ ok e z2,z3⟩,fun k hk=>let ⟨x,hx,q,z1,z2⟩:=h7 k hk;⟨x,hx,q,z1,mJ ok e z2⟩⟩
theorem bC.Jz{a:Addr}(ok:bC K U H)(h:H a=none):U.b a=none:=by
 cases q:U.b a with
 |none=>rfl
 |some c=>
  obtain⟨_,ob,e,_⟩:=ok.box a c q
  rw[h] at e;cases e
theorem kh.ext{ρ:Rho}{σ:St}(ok:bC K U H)(e:Ext K U H ad H1)(r:kh K U H ρ σ):kh K ad H1 ρ σ:=
 ⟨r.1,fun i d h=>let ⟨u,h1,h2⟩:=r.2 i d h;⟨u,h1,h2.ext ok e⟩⟩
theorem RpL.length{ds:List PyData}{us:List V}:RpL K U H ds us->ds.length=us.length
 |.nil=>rfl
 |.cons _ r=>congrArg (· + 1) (RpL.length r)
theorem RpL.get{ds:List PyData}{us:List V}:∀{i:Nat} {d:PyData},RpL K U H ds us->ds[i]? = some d->∃u,us[i]? = some u/\Rp K U H d u
 |_,_,.nil,h=>by simp at h
 |0,_,.cons r _,h=>by simp at h;subst h;exact⟨_,rfl,r⟩
 |i+1,d,.cons _ t,h=>by
  obtain⟨u,h1,h2⟩:=RpL.get (i:=i) (d:=d) t (by simpa using h)
  exact⟨u,by simpa using h1,h2⟩
theorem RpL.append{ds es:List PyData}{us ws:List V}:RpL K U H ds us->RpL K U H es ws->RpL K U H (ds++es) (us++ws)
 |.nil,s=>s
 |.cons r t,s=>.cons r (RpL.append t s)
theorem RpL.take{ds:List PyData}{us:List V}:∀(n:Nat),RpL K U H ds us->RpL K U H (ds.take n) (us.take n)
 |0,_=>by simp;exact .nil
 |_+1,.nil=>by simp;exact .nil
 |n+1,.cons r t=>.cons r (RpL.take n t)
theorem RpL.drop{ds:List PyData}{us:List V}:∀(n:Nat),RpL K U H ds us->RpL K U H (ds.drop n) (us.drop n)
 |0,r=>r
 |_+1,.nil=>by simp;exact .nil
 |n+1,.cons _ t=>RpL.drop n t
theorem RpL.set{ds:List PyData}{us:List V}{d:PyData}{u:V}(q:Rp K U H d u):∀(i:Nat),RpL K U H ds us->RpL K U H (ds.set i d) (us.set i u)
 |_,.nil=>.nil
 |0,.cons _ t=>.cons q t
 |i+1,.cons r t=>.cons r (RpL.set q i t)
theorem Hq{ds:List PyData}{us:List V}{i:Int}{d:PyData}(r:RpL K U H ds us)(h:atI ds i=some d):∃u,atI us i=some u/\Rp K U H d u:=by
 unfold atI at h ⊢
 rw[<- r.length]
 cases q:ixN ds.length i with
 |none=>rw[q] at h;cases h
 |some j=>
  rw[q] at h
  exact r.get h
noncomputable abbrev DK:=D->Mu->Prop
noncomputable abbrev DTE:=Rho->Mu->DK->Prop
noncomputable abbrev DTT:=Rho->Mu->(Bool->Mu->Prop)->Prop
noncomputable abbrev DTA:=Rho->Mu->(List D->Mu->Prop)->Prop
structure BF where
 nx:Rho->Mu->Prop
 rt:DK
 bk:Rho->Mu->Prop:=fun _ _=>False
 ct:Rho->Mu->Prop:=fun _ _=>False
noncomputable abbrev DTS:=BF->Rho->Mu->Prop
inductive jO(K:PySem.W.Frag)(U:Mu)(H:Hp):List D->List V->Prop
 |nil:jO K U H [] []
 |cons {d:D} {u:V} {ds:List D} {us:List V}:RpD K U H d u->jO K U H ds us->jO K U H (d::ds) (u::us)
theorem jO.ext{ds:List D}{us:List V}(ok:bC K U H)(e:Ext K U H ad H1):jO K U H ds us->jO K ad H1 ds us
 |.nil=>.nil
 |.cons h r=>.cons (h.ext ok e) (jO.ext ok e r)
theorem jO.length{ds:List D}{us:List V}:jO K U H ds us->ds.length=us.length
 |.nil=>rfl
 |.cons _ r=>congrArg (· + 1) (jO.length r)
end
noncomputable def uj(K:PySem.W.Frag)(t:TE)(td:DTE):Prop:=∀(σ:St) (H:Hp) (ρ:Rho) (U:Mu) (Qd:DK) (Q:VK),St0 K H ρ U σ->td ρ U Qd ->
 (∀d u Z H',Ext K U H Z H'->St0 K H' ρ Z σ->RpD K Z H' d u->Qd d Z->Q u H')->t σ H Q
noncomputable def LW(K:PySem.W.Frag)(t:TT)(td:DTT):Prop:=∀(σ:St) (H:Hp) (ρ:Rho) (U:Mu) (Qd:Bool->Mu->Prop) (Q:Bool->Hp->Prop),St0 K H ρ U σ->td ρ U Qd ->
 (∀b Z H',Ext K U H Z H'->St0 K H' ρ Z σ->Qd b Z->Q b H')->t σ H Q
noncomputable def Qq(K:PySem.W.Frag)(n:Nat)(t:TA)(td:DTA):Prop:=∀(σ:St) (H:Hp) (ρ:Rho) (U:Mu) (Qd:List D->Mu->Prop) (Q:List V->Hp->Prop),St0 K H ρ U σ->td ρ U Qd ->
 (∀ds us Z H',Ext K U H Z H'->St0 K H' ρ Z σ->jO K Z H' ds us->ds.length=n->Qd ds Z->Q us H')->t σ H Q
noncomputable def BZ(K:PySem.W.Frag)(t:TS)(td:DTS):Prop:=∀(σ:St) (H:Hp) (ρ:Rho) (U:Mu) (Dd:BF) (De:Ends),St0 K H ρ U σ->td Dd ρ U ->
 (∀bn ce Z H',Ext K U H Z H'->St0 K H' ce Z bn->Dd.nx ce Z->De.nx bn H') ->
 (∀d u Z H',Ext K U H Z H'->bC K Z H'->RpD K Z H' d u->Dd.rt d Z->De.rt u H') ->
 (∀bn ce Z H',Ext K U H Z H'->St0 K H' ce Z bn->Dd.bk ce Z->De.bk bn H') ->
 (∀bn ce Z H',Ext K U H Z H'->St0 K H' ce Z bn->Dd.ct ce Z->De.ct bn H')->t De σ H
noncomputable def DE(X:Cx)(e:Expr)(td:DTE):Prop:=∃t,PE X e t/\uj X.K t td
noncomputable def DT(X:Cx)(e:Expr)(td:DTT):Prop:=∃t,PT X e t/\LW X.K t td
noncomputable def DA(X:Cx)(es:List Expr)(td:DTA):Prop:=∃t,PA X es t/\Qq X.K es.length t td
noncomputable def DS(X:Cx)(st:Stmt)(td:DTS):Prop:=∃t,PS X st t/\BZ X.K t td
noncomputable def DSs(X:Cx)(st:List Stmt)(td:DTS):Prop:=∃t,PSs X st t/\BZ X.K t td
section
variable {X:Cx}{a b c:Expr}{ta tb tc:DTE}{pos:Pos}
noncomputable def ah(i:Nat):DTE:=fun ρ U Q=>match ρ[i]? with
 |some (some d)=>Q d U
 |_=>False
noncomputable def dC(x:PyData):DTE:=fun _ U Q=>Q (.v x) U
theorem Nn{K:PySem.W.Frag}(i:Nat):uj K (S0 i) (ah i):=by
 intro σ H ρ U Qd Q S h k
 unfold ah at h
 split at h
 ·rename_i d e
  obtain⟨u,h1,h2⟩:=S.rho.2 i d e
  exact⟨u,h1,k d u U H .refl S h2 h⟩
 ·exact h.elim
theorem dv(i:Nat){x:Str}{pos:Pos}(hN:X.N[i]? = some x:=by rfl)(hv:Vis X.env.scope x:=by first|exact Or.inl rfl|exact Or.inr (Or.inl rfl)|exact Or.inr (Or.inr rfl))(hd:(x==("__debug__":Str))=false:=by decide)
  (hcd:(x==("__classdict__":Str))=false:=by decide):DE X (.Name x pos) (ah i):=⟨_,NR hN hv hd hcd,Nn i⟩
theorem Dx{K:PySem.W.Frag}{x:PyData}{u:V}(h:∀U H,bC K U H->Rp K U H x u):uj K (tC u) (dC x):=fun σ H ρ U Qd Q S q k=>k (.v x) u U H .refl S (h U H S.mu) q
theorem ai{i j pos}:DE X (.Constant (.int i) j pos) (dC (.int i)):=⟨_,Rf,Dx fun _ _ _=>.int i⟩
theorem kA{i j pos}:DE X (.Constant (.bool i) j pos) (dC (.bool i)):=⟨_,TZ,Dx fun _ _ _=>.bool i⟩
theorem fq{x j pos}:DE X (.Constant (.str x) j pos) (dC (.str x)):=⟨_,Nr,Dx fun _ _ _=>.str x⟩
theorem xp{x:Str}{d:PyData}{u:V}{w:Value}{pos:Pos}(hg:Gl X x)(hm:X.mg x=some w)(r:RelV u w)(h:∀U H,bC X.K U H->Rp X.K U H d u)(hd:(x==("__debug__":Str))=false:=by decide):DE X (.Name x pos) (dC d):=
 ⟨_,Jk hg hm r hd,Dx h⟩
noncomputable def jJ(K:PySem.W.Frag)(rr:R2)(r:D->D->Mu->DK->Prop):Prop:=∀(x y:D) (ux uy:V) (H:Hp) (U:Mu) (Qd:DK) (Q:VK),bC K U H->RpD K U H x ux->RpD K U H y uy->r x y U Qd ->
 (∀d u Z H',Ext K U H Z H'->bC K Z H'->RpD K Z H' d u->Qd d Z->Q u H')->rr ux uy H Q
noncomputable def dOp(r:D->D->Mu->DK->Prop)(ta tb:DTE):DTE:=fun ρ U Q=>ta ρ U fun x ad=>tb ρ ad fun y am=>r x y am Q
theorem xy{K:PySem.W.Frag}{rr:R2}{r}{t1 t2:TE}(lo:jJ K rr r)(la:uj K t1 ta)(lb:uj K t2 tb):uj K (tOp rr t1 t2) (dOp r ta tb):=by
 intro σ H ρ U Qd Q S h k
 refine la σ H ρ U _ _ S h fun x ux ad H1 e1 S1 rx h1=>?_
 refine lb σ H1 ρ ad _ _ S1 h1 fun y uy am H2 e2 S2 ry h2=>?_
 exact lo x y ux uy H2 am _ _ S2.mu (rx.ext S1.mu e2) ry h2 fun d u Z H' e3 ok r q=>k d u Z H' (e1.trans (e2.trans e3)) ⟨ok,S2.rho.ext S2.mu e3⟩ r q
theorem sP{op:Operator}{rr:R2}{r}(ho:OpR X (binaryOp op) rr)(lo:jJ X.K rr r)(ha:DE X a ta)(hb:DE X b tb):DE X (.BinOp a op b pos) (dOp r ta tb):=by
 obtain⟨t1,p1,l1⟩:=ha
 obtain⟨t2,p2,l2⟩:=hb
 exact⟨_,Uc ho p1 p2,xy lo l1 l2⟩
theorem eI{op:CmpOp}{rr:R2}{r}(ho:OpR X (compareOp op) rr)(lo:jJ X.K rr r)(ha:DE X a ta)(hb:DE X b tb)(hm:behindInMarks op b=false):DE X (.Compare a [op] [b] pos) (dOp r ta tb):=by
 obtain⟨t1,p1,l1⟩:=ha
 obtain⟨t2,p2,l2⟩:=hb
 exact⟨_,OK ho p1 p2 hm,xy lo l1 l2⟩
noncomputable def dB(t:DTE):DTT:=fun ρ U Q=>t ρ U fun d ad=>match d with
 |.v (.bool k)=>Q k ad
 |_=>False
theorem Bb{K:PySem.W.Frag}{t:TE}{td:DTE}(l:uj K t td):LW K (P4 t) (dB td):=by
 intro σ H ρ U Qd Q S h k
 refine l σ H ρ U _ _ S h fun d u ad H1 e1 S1 r q=>?_
 split at q
 ·rename_i b
  cases r
  exact⟨b,rfl,k b ad H1 e1 S1 q⟩
 ·exact q.elim
theorem aU{op:CmpOp}{rr:R2}{r}(ho:OpR X (compareOp op) rr)(lo:jJ X.K rr r)(ha:DE X a ta)(hb:DE X b tb)(hm:behindInMarks op b=false):DT X (.Compare a [op] [b] pos) (dB (dOp r ta tb)):=by
 obtain⟨t1,p1,l1⟩:=ha
 obtain⟨t2,p2,l2⟩:=hb
 exact⟨_,PU ho p1 p2 hm,Bb (xy lo l1 l2)⟩
theorem cY{e:Expr}{td:DTE}(h:DE X e td)(he:∀whole,isTrue e X.env whole=(do let v <- whole;standAt e.pos;holding [v] (truthy v)):=by intro _;rfl):DT X e (dB td):=by
 obtain⟨t,p,l⟩:=h
 exact⟨_,RP p he,Bb l⟩
noncomputable def rII(C:Int->Int->Prop)(g:Int->Int->PyData):D->D->Mu->DK->Prop:=fun x y U Q=>match x,y with
 |.v (.int i),.v (.int j)=>C i j/\Q (.v (g i j)) U
 |_,_=>False
theorem O4{K:PySem.W.Frag}{C:Int->Int->Prop}{g:Int->Int->V}{gd:Int->Int->PyData}(hg:∀U H i j,Rp K U H (gd i j) (g i j)):jJ K (rI C g) (rII C gd):=by
 intro x y ux uy H U Qd Q ok rx ry h k
 unfold rII at h
 split at h
 ·rename_i i j
  cases rx;cases ry
  exact⟨i,j,rfl,rfl,h.1,k (.v _) _ U H .refl ok (hg U H i j) h.2⟩
 ·exact h.elim
noncomputable def A2(g:Int->Int->PyData):D->D->Mu->DK->Prop:=fun x y U Q=>match x,y with
 |.v (.int i),.v (.int j)=>Q (.v (g i j)) U
 |_,_=>False
theorem IG{K:PySem.W.Frag}{g:Int->Int->V}{gd:Int->Int->PyData}(hg:∀U H i j,Rp K U H (gd i j) (g i j)):jJ K (rI0 g) (A2 gd):=by
 intro x y ux uy H U Qd Q ok rx ry h k
 unfold A2 at h
 split at h
 ·rename_i i j
  cases rx;cases ry
  exact⟨i,j,rfl,rfl,k (.v _) _ U H .refl ok (hg U H i j) h⟩
 ·exact h.elim
noncomputable abbrev bV(ta tb:DTE):DTE:=dOp (A2 fun i j=>.int (i+j)) ta tb
noncomputable abbrev jY(ta tb:DTE):DTE:=dOp (A2 fun i j=>.int (i-j)) ta tb
noncomputable abbrev MulOk(i j:Int):Prop:=IntMulOk i j
noncomputable abbrev bU(ta tb:DTE):DTE:=dOp (rII MulOk fun i j=>.int (i*j)) ta tb
noncomputable abbrev yk(ta tb:DTE):DTE:=dOp (rII (fun _ j=>j≠0) fun i j=>.int (i.fmod j)) ta tb
noncomputable abbrev vW(i j:Int):Prop:=j≠0/\Builtin.divisionGoesByPylong i j=false
noncomputable abbrev vC(ta tb:DTE):DTE:=dOp (rII vW fun i j=>.int (i.fdiv j)) ta tb
noncomputable abbrev R5(ta tb:DTE):DTE:=dOp (rII Rw fun i j=>.int (i ^ j.toNat)) ta tb
theorem N1:OpR X (binaryOp .Mult) (rI MulOk fun i j=>.int (i*j)):=opI fun _ _ _ _ _ _ _ hc q=>mul_int q hc
theorem N8:OpR X (binaryOp .FloorDiv) (rI vW fun i j=>.int (i.fdiv j)):=opI fun _ _ _ _ _ _ _ hc q=>floordiv_int hc.1 q (.inl hc.2)
theorem ba(ha:DE X a ta)(hb:DE X b tb):DE X (.BinOp a .Add b pos) (bV ta tb):=sP Mf (IG fun _ _ _ _=>.int _) ha hb
theorem cI(ha:DE X a ta)(hb:DE X b tb):DE X (.BinOp a .Sub b pos) (jY ta tb):=sP RD (IG fun _ _ _ _=>.int _) ha hb
theorem aZ(ha:DE X a ta)(hb:DE X b tb):DE X (.BinOp a .Mult b pos) (bU ta tb):=sP N1 (O4 fun _ _ _ _=>.int _) ha hb
theorem lz(ha:DE X a ta)(hb:DE X b tb):DE X (.BinOp a .Mod b pos) (yk ta tb):=sP Pm (O4 fun _ _ _ _=>.int _) ha hb
theorem i4(ha:DE X a ta)(hb:DE X b tb):DE X (.BinOp a .FloorDiv b pos) (vC ta tb):=sP N8 (O4 fun _ _ _ _=>.int _) ha hb
theorem MC(ha:DE X a ta)(hb:DE X b tb):DE X (.BinOp a .Pow b pos) (R5 ta tb):=sP QU (O4 fun _ _ _ _=>.int _) ha hb
noncomputable abbrev rLt:=A2 fun i j=>.bool (decide (i<j))
noncomputable abbrev rLe:=A2 fun i j=>.bool (decide (i<=j))
noncomputable abbrev rGt:=A2 fun i j=>.bool (decide (j<i))
noncomputable abbrev rGe:=A2 fun i j=>.bool (decide (j<=i))
theorem eE{K:PySem.W.Frag}{p:Int->Int->Bool}:jJ K (rI0 fun i j=>.bl (p i j)) (A2 fun i j=>.bool (p i j)):=IG fun _ _ _ _=>.bool _
noncomputable def yg(ta:DTE):DTE:=fun ρ U Q=>ta ρ U fun x ad=>match x with
 |.v (.int i)=>Q (.v (.int (-i))) ad
 |_=>False
theorem mE(ha:DE X a ta):DE X (.UnaryOp .USub a pos) (yg ta):=by
 obtain⟨t1,p1,l1⟩:=ha
 refine⟨_,TQ R6 p1,fun σ H ρ U Qd Q S h k=>?_⟩
 refine l1 σ H ρ U _ _ S h fun x ux ad H1 e1 S1 rx h1=>?_
 split at h1
 ·rename_i i
  cases rx
  exact⟨i,rfl,k (.v _) _ ad H1 e1 S1 (Rp.int _) h1⟩
 ·exact h1.elim
noncomputable def vN(t u:DTT):DTT:=fun ρ U Q=>t ρ U fun c ad=>if c=true then u ρ ad Q else Q false ad
noncomputable def qu(t u:DTT):DTT:=fun ρ U Q=>t ρ U fun c ad=>if c=true then Q true ad else u ρ ad Q
noncomputable def gC(t:DTT):DTT:=fun ρ U Q=>t ρ U fun c ad=>Q (!c) ad
noncomputable def DW(X:Cx)(e:Expr)(td:DTT):Prop:=∃t,PW X e t/\LW X.K t td
theorem DW.dt{e:Expr}{td:DTT}(h:DW X e td):DT X e td:=let ⟨t,p,l⟩:=h;⟨t,p.pt,l⟩
variable {tA tB':DTT}{rest:List Expr}
theorem sR(ha:DT X a tA):DW X (.BoolOp .And [a] pos) tA:=let ⟨t,p,l⟩:=ha;⟨t,pw_and1 p,l⟩
theorem nj(ha:DT X a tA):DW X (.BoolOp .Or [a] pos) tA:=let ⟨t,p,l⟩:=ha;⟨t,pw_or1 p,l⟩
theorem xR(ha:DT X a tA)(hb:DW X (.BoolOp .And (b::rest) pos) tB'):DW X (.BoolOp .And (a::b::rest) pos) (vN tA tB'):=by
 obtain⟨t1,p1,l1⟩:=ha
 obtain⟨t2,p2,l2⟩:=hb
 refine⟨_,pw_and p1 p2,fun σ H ρ U Qd Q S h k=>?_⟩
 refine l1 σ H ρ U _ _ S h fun c ad H1 e1 S1 h1=>?_
 cases c with
 |true=>
  refine HA (l2 σ H1 ρ ad _ _ S1 (by simpa using h1) fun c am H2 e2 S2 h2=>k c am H2 (e1.trans e2) S2 h2)
 |false=>exact GW (k false ad H1 e1 S1 (by simpa using h1))
theorem lT(ha:DT X a tA)(hb:DW X (.BoolOp .Or (b::rest) pos) tB'):DW X (.BoolOp .Or (a::b::rest) pos) (qu tA tB'):=by
 obtain⟨t1,p1,l1⟩:=ha
 obtain⟨t2,p2,l2⟩:=hb
 refine⟨_,pw_or p1 p2,fun σ H ρ U Qd Q S h k=>?_⟩
 refine l1 σ H ρ U _ _ S h fun c ad H1 e1 S1 h1=>?_
 cases c with
 |true=>exact HA (k true ad H1 e1 S1 (by simpa using h1))
 |false=>
  refine GW (l2 σ H1 ρ ad _ _ S1 (by simpa using h1) fun c am H2 e2 S2 h2=>k c am H2 (e1.trans e2) S2 h2)
theorem dU(ha:DT X a tA):DT X (.UnaryOp .Not a pos) (gC tA):=by
 obtain⟨t1,p1,l1⟩:=ha
 refine⟨_,QX p1,fun σ H ρ U Qd Q S h k=>?_⟩
 exact l1 σ H ρ U _ _ S h fun c ad H1 e1 S1 h1=>k _ ad H1 e1 S1 h1
noncomputable def nY(ta tb:DTE):DTE:=fun ρ U Q=>ta ρ U fun x ad=>match x with
 |.v (.bool c)=>if c=true then tb ρ ad Q else Q (.v (.bool false)) ad
 |_=>False
noncomputable def L3(ta:DTE):DTE:=fun ρ U Q=>ta ρ U fun x ad=>match x with
 |.v (.bool c)=>Q (.v (.bool (!c))) ad
 |_=>False
theorem rm{op}(h:DE X a ta):DE X (.BoolOp op [a] pos) ta:=let ⟨t,p,l⟩:=h;⟨t,Ri p,l⟩
theorem mO(ha:DE X a ta)(hb:DE X (.BoolOp .And (b::rest) pos) tb):DE X (.BoolOp .And (a::b::rest) pos) (nY ta tb):=by
 obtain⟨t1,p1,l1⟩:=ha
 obtain⟨t2,p2,l2⟩:=hb
 refine⟨_,Sw p1 p2,fun σ H ρ U Qd Q S h k=>?_⟩
 refine l1 σ H ρ U _ _ S h fun x ux ad H1 e1 S1 rx h1=>?_
 split at h1
 ·rename_i c
  cases rx
  refine⟨c,rfl,?_⟩
  cases c with
  |true=>exact HA (l2 σ H1 ρ ad _ _ S1 (by simpa using h1) fun d u am H2 e2 S2 r2 h2=>k d u am H2 (e1.trans e2) S2 r2 h2)
  |false=>exact GW (k (.v _) _ ad H1 e1 S1 (Rp.bool false) (by simpa using h1))
 ·exact h1.elim
theorem Ss(ha:DE X a ta):DE X (.UnaryOp .Not a pos) (L3 ta):=by
 obtain⟨t1,p1,l1⟩:=ha
 refine⟨_,Q5 p1,fun σ H ρ U Qd Q S h k=>?_⟩
 refine l1 σ H ρ U _ _ S h fun x ux ad H1 e1 S1 rx h1=>?_
 split at h1
 ·rename_i c
  cases rx
  exact⟨c,rfl,k (.v _) _ ad H1 e1 S1 (Rp.bool _) h1⟩
 ·exact h1.elim
noncomputable def dIf(t:DTT)(ta tb:DTE):DTE:=fun ρ U Q=>t ρ U fun c ad=>if c=true then ta ρ ad Q else tb ρ ad Q
theorem Bk{c:Expr}(hc:DT X c tA)(ha:DE X a ta)(hb:DE X b tb):DE X (.IfExp c a b pos) (dIf tA ta tb):=by
 obtain⟨t0,p0,l0⟩:=hc
 obtain⟨t1,p1,l1⟩:=ha
 obtain⟨t2,p2,l2⟩:=hb
 refine⟨_,LP p0 p1 p2,fun σ H ρ U Qd Q S h k=>?_⟩
 refine l0 σ H ρ U _ _ S h fun c ad H1 e1 S1 h1=>?_
 cases c with
 |true=>exact HA (l1 σ H1 ρ ad _ _ S1 (by simpa using h1) fun d u am H2 e2 S2 r2 h2=>k d u am H2 (e1.trans e2) S2 r2 h2)
 |false=>exact GW (l2 σ H1 ρ ad _ _ S1 (by simpa using h1) fun d u am H2 e2 S2 r2 h2=>k d u am H2 (e1.trans e2) S2 r2 h2)
end
section
variable {K:PySem.W.Frag}{U ad:Mu}{H H1:Hp}{p:Addr}
theorem dM{o:HO}(h:H p=none):Ext K U H U (upd H p o):=
 ⟨fun b u e _ _=>by rw[aP (aI e h)];exact e,fun b ps e _=>⟨ps,by rw[aP (aI e h)];exact e⟩,fun _ ds q=>⟨ds,q⟩,fun _ q _=>q,fun b o e _=>⟨o,by rw[aP (aI e h)];exact e⟩,fun _ c q=>⟨c,q⟩⟩
theorem bC.N7(ok:bC K U H)(e:Ext K U H U H1)(s:D0 H H1):bC K U H1:=⟨fun a ds q=>by
 obtain⟨xs,h1,h2⟩:=ok a ds q
 exact⟨xs,s _ _ h1,h2.ext ok e⟩,ok.tab.of fun b o h _ _=>s b o h,fun a c q=>by
 obtain⟨z,o,h1,h2⟩:=ok.box a c q
 exact⟨z,o,s _ _ h1,h2.ext ok e⟩⟩
theorem F6{o:HO}(h:H p=none):D0 H (upd H p o):=fun b u q=>by rw[aP (aI q h)];exact q
theorem bC.new{o:HO}(ok:bC K U H)(h:H p=none):bC K U (upd H p o):=ok.N7 (dM h) (F6 h)
theorem St0.new{o:HO}{ρ:Rho}{σ:St}(S:St0 K H ρ U σ)(h:H p=none):St0 K (upd H p o) ρ U σ:=⟨S.mu.new h,S.rho.ext S.mu (dM h)⟩
theorem iq{us:List V}{ds:List PyData}(ok:bC K U H)(r:RpL K U H ds us)(h:H p=none):Rp K U (upd H p (.tup us)) (.tuple ds) (.ref p):=
 .tuple (SqT.of bS) (r.ext ok (dM h))
theorem jC{us:List V}{ds:List PyData}(ok:bC K U H)(r:RpL K U H ds us)(h:H p=none):Rp K U (upd H p (.lst us)) (.list ds) (.ref p):=
 .list bS (ok.free h) (r.ext ok (dM h))
theorem qj{o:HO}{ds:List PyData}(ok:bC K U H)(h:H p=none)(hk:K.lookup p=none):Ext K U H (aR U p ds) (upd H p o) where
 keep:=fun b u e _ _=>by rw[aP (aI e h)];exact e
 tb:=fun b ps e _=>⟨ps,by rw[aP (aI e h)];exact e⟩
 dom:=fun b es q=>by
  have:b≠p:=fun z=>by rw[z,ok.free h] at q;cases q
  exact⟨es,by rw[aT this];exact q⟩
 fresh:=fun b n q=>by
  have:b≠p:=fun z=>by
   rcases q with q|q
   ·exact q (by rw[z];exact h)
   ·exact q (by rw[z];exact hk)
  rw[aT this];exact n
 st:=fun b o e _=>⟨o,by rw[aP (aI e h)];exact e⟩
 bx:=fun b c q=>⟨c,q⟩
theorem bC.mut{us:List V}{ds:List PyData}(ok:bC K U H)(r:RpL K U H ds us)(h:H p=none)(hk:K.lookup p=none):bC K (aR U p ds) (upd H p (.lst us)):=⟨fun a es q=>by
 have e:=qj (o:=.lst us) (ds:=ds) ok h hk
 by_cases ha:a=p
 ·subst ha
  rw[aM] at q
  cases q
  exact⟨us,bS,r.ext ok e⟩
 ·rw[aT ha] at q
  obtain⟨xs,h1,h2⟩:=ok a es q
  exact⟨xs,by rw[aP ha];exact h1,h2.ext ok e⟩,ok.tab.of fun b o e _ _=>by rw[aP (aI e h)];exact e,fun a c q=>by
 obtain⟨z,o,h1,h2⟩:=ok.box a c q
 exact⟨z,o,by rw[aP (aI h1 h)];exact h1,h2.ext ok (qj ok h hk)⟩⟩
theorem kd{o:HO}{ds es:List PyData}(h:U p=some ds):Ext K U H (aR U p es) (upd H p o) where
 keep:=fun b u e n _=>by
  have:b≠p:=fun z=>by rw[z,h] at n;cases n
  rw[aP this];exact e
 tb:=fun b ps e n=>by
  have:b≠p:=fun z=>by rw[z,h] at n;cases n
  exact⟨ps,by rw[aP this];exact e⟩
 dom:=fun b fs q=>by
  by_cases hb:b=p
  ·subst hb;exact⟨es,aM⟩
  ·exact⟨fs,by rw[aT hb];exact q⟩
 fresh:=fun b n q=>by
  have:b≠p:=fun z=>by rw[z,h] at n;cases n
  rw[aT this];exact n
 st:=fun b o e n=>by
  have:b≠p:=fun z=>by rw[z,h] at n;cases n
  exact⟨o,by rw[aP this];exact e⟩
 bx:=fun b c q=>⟨c,q⟩
theorem bC.set{us:List V}{ds es:List PyData}(ok:bC K U H)(h:U p=some ds)(r:RpL K U H es us):bC K (aR U p es) (upd H p (.lst us)):=⟨fun a fs q=>by
 have e:Ext K U H (aR U p es) (upd H p (.lst us)):=kd h
 by_cases ha:a=p
 ·subst ha
  rw[aM] at q
  cases q
  exact⟨us,bS,r.ext ok e⟩
 ·rw[aT ha] at q
  obtain⟨xs,h1,h2⟩:=ok a fs q
  exact⟨xs,by rw[aP ha];exact h1,h2.ext ok e⟩,by
 obtain⟨ys,hy,_⟩:=ok p ds h
 exact ok.tab.of fun b o e n _=>by
  have:b≠p:=fun z=>by rw[z,hy] at e;exact n ys (Option.some.inj e).symm
  rw[aP this];exact e,fun a c q=>by
 obtain⟨ys,hy,_⟩:=ok p ds h
 obtain⟨z,o,h1,h2⟩:=ok.box a c q
 have:a≠p:=fun w=>by rw[w,hy] at h1;cases h1
 exact⟨z,o,by rw[aP this];exact h1,h2.ext ok (kd h)⟩⟩
end
noncomputable def cT:List D->Option (List PyData)
 |[]=>some []
 |.v x::r=>(cT r).map (x::·)
 |_::_=>none
theorem jO.data{K:PySem.W.Frag}{U:Mu}{H:Hp}:∀{ds:List D} {us:List V} {xs:List PyData},jO K U H ds us->cT ds=some xs->RpL K U H xs us
 |_,_,_,.nil,e=>by cases e;exact .nil
 |.v x::r,_,xs,.cons h t,e=>by
  simp only[cT] at e
  cases q:cT r with
  |none=>rw[q] at e;cases e
  |some ys=>rw[q] at e;cases e;exact .cons h (jO.data t q)
 |.m _::_,_,_,.cons _ _,e=>by simp[cT] at e
 |.s _::_,_,_,.cons _ _,e=>by simp[cT] at e
 |.o _::_,_,_,.cons _ _,e=>by simp[cT] at e
section
variable {X:Cx}{e:Expr}{es:List Expr}{te:DTE}{t:DTA}{pos:Pos}
noncomputable def ar:DTA:=fun _ U Q=>Q [] U
noncomputable def ag(ta:DTE)(tr:DTA):DTA:=fun ρ U Q=>ta ρ U fun x ad=>tr ρ ad fun xs am=>Q (x::xs) am
theorem aj:DA X [] ar:=⟨_,pB,fun σ H ρ U Qd Q S h k=>k [] [] U H .refl S .nil rfl h⟩
theorem ae(ha:DE X e te)(hr:DA X es t)(hs:starEach (e::es) X.env=(false,eval e X.env)::starEach es X.env:=by rfl):DA X (e::es) (ag te t):=by
 obtain⟨t1,p1,l1⟩:=ha
 obtain⟨t2,p2,l2⟩:=hr
 refine⟨_,eY p1 p2 hs,fun σ H ρ U Qd Q S h k=>?_⟩
 refine l1 σ H ρ U _ _ S h fun x ux ad H1 e1 S1 rx h1=>?_
 refine l2 σ H1 ρ ad _ _ S1 h1 fun xs us am H2 e2 S2 rs len h2=>?_
 exact k (x::xs) (ux::us) am H2 (e1.trans e2) S2 (.cons (rx.ext S1.mu e2) rs) (by rw[length_cons,length_cons,len]) h2
noncomputable def bH(t:DTA):DTE:=fun ρ U Q=>t ρ U fun ds ad=>match cT ds with
 |some xs=>Q (.v (.tuple xs)) ad
 |none=>False
noncomputable def pQ(t:DTA):DTE:=fun ρ U Q=>t ρ U fun ds ad=>match cT ds with
 |some xs=>Q (.v (.list xs)) ad
 |none=>False
noncomputable def uT(t:DTA):DTE:=fun ρ U Q=>t ρ U fun ds ad=>match cT ds with
 |some xs=>∀p,ad p=none->Q (.m p) (aR ad p xs)
 |none=>False
theorem aO{x1}(h:DA X es t)(hl:es.length<=1000:=by decide):DE X (.Tuple es x1 pos) (bH t):=by
 obtain⟨t1,p1,l1⟩:=h
 refine⟨_,Qv p1,fun σ H ρ U Qd Q S h k=>?_⟩
 refine l1 σ H ρ U _ _ S h fun ds us ad H1 e1 S1 rs len h1=>?_
 cases q:cT ds with
 |none=>rw[q] at h1;exact h1.elim
 |some xs=>
  rw[q] at h1
  refine⟨Nat.le_of_lt (iu (by rw[<- rs.length,len];exact hl)),fun p hp=>?_⟩
  exact k (.v (.tuple xs)) _ ad _ (e1.trans (dM hp)) (S1.new hp) (iq S1.mu (rs.data q) hp) h1
theorem fj(h:DA X es t)(hl:es.length<=1000:=by decide):DE X (.List es pos) (pQ t):=by
 obtain⟨t1,p1,l1⟩:=h
 refine⟨_,Sa p1,fun σ H ρ U Qd Q S h k=>?_⟩
 refine l1 σ H ρ U _ _ S h fun ds us ad H1 e1 S1 rs len h1=>?_
 cases q:cT ds with
 |none=>rw[q] at h1;exact h1.elim
 |some xs=>
  rw[q] at h1
  refine⟨Nat.le_of_lt (iu (by rw[<- rs.length,len];exact hl)),fun p hp=>?_⟩
  exact k (.v (.list xs)) _ ad _ (e1.trans (dM hp)) (S1.new hp) (jC S1.mu (rs.data q) hp) h1
noncomputable def Ti(K:PySem.W.Frag)(t:TA):TE:=fun σ H Q=>t σ H fun xs H1=>xs.length<=sizeLine/\∀p,H1 p=none->K.lookup p=none->Q (.ref p) (upd H1 p (.lst xs))
theorem OU{t:TA}(h:PA X es t):PE X (.List es pos) (Ti X.K t):=by
 intro pins s σ H Q I hq
 refine wpAny_List_spliced (thn (h pos pins s σ H _ I hq) fun us s1 ⟨xs,H1,I1,r,z,q⟩=>⟨by rw[<- r.length];exact z,?_⟩)
 have hf:H1 s1.heap.objs.size=none:=I1.hok.fresh (Nat.le_refl _)
 have hk:X.K.lookup s1.heap.objs.size=none:=by
  cases c:X.K.lookup s1.heap.objs.size with
  |none=>rfl
  |some o=>exact absurd (Heap.lt_size (I1.kIn _ _ c)) (lt_irrefl _)
 refine⟨.ref s1.heap.objs.size,upd H1 s1.heap.objs.size (.lst xs),I1.laid (t':=s1.toks) (fun b u e=>Heap.get?_push_of_some _ e) (Nat.le_refl _) ?_,rfl,q _ hf hk⟩
 exact⟨z,us,0,r,Heap.get?_push_size _ rfl⟩
theorem mX(h:DA X es t)(hl:es.length<=1000:=by decide):DE X (.List es pos) (uT t):=by
 obtain⟨t1,p1,l1⟩:=h
 refine⟨_,OU p1,fun σ H ρ U Qd Q S h k=>?_⟩
 refine l1 σ H ρ U _ _ S h fun ds us ad H1 e1 S1 rs len h1=>?_
 cases q:cT ds with
 |none=>rw[q] at h1;exact h1.elim
 |some xs=>
  rw[q] at h1
  refine⟨Nat.le_of_lt (iu (by rw[<- rs.length,len];exact hl)),fun p hp hk=>?_⟩
  have ex:=qj (o:=.lst us) (ds:=xs) S1.mu hp hk
  exact k (.m p) _ (aR ad p xs) _ (e1.trans ex) ⟨S1.mu.mut (rs.data q) hp hk,S1.rho.ext S1.mu ex⟩ ⟨rfl,xs,aM⟩ (h1 p (S1.mu.free hp))
end
section
variable {X:Cx}{pins:List (Addr×Obj)}{σ:St}{H:Hp}{s:Shared}{U:Mu}
mutual
theorem gh(I:Inv X pins σ H s):∀{d:PyData} {x:V} {u:Value},Rp X.K U H d x->RelV x u->∃as,Reads s.heap u d as
 |_,_,_,.none,r=>by cases r;exact⟨_,.none⟩
 |_,_,_,.bool b,r=>by cases r;exact⟨_,.bool b⟩
 |_,_,_,.int i,r=>by obtain⟨t,rfl⟩:=r;exact⟨_,.int i t⟩
 |_,_,_,.str y,r=>by obtain⟨t,rfl⟩:=r;exact⟨_,.str y t⟩
 |_,_,_,.list h _ q,r=>by
  cases r
  obtain⟨its,rv,⟨o,n,ho,hc,_,hd⟩,_⟩:=I.list (SqL.of h)
  obtain⟨as,ra⟩:=pM I q rv
  exact⟨_,.list ho hc hd (by simpa using ra)⟩
 |_,_,_,.tuple h q,r=>by
  cases r
  obtain⟨its,rv,⟨o,ho,hc,n,hd⟩,_⟩:=I.tuple h
  obtain⟨as,ra⟩:=pM I q rv
  exact⟨_,.tuple ho hc hd (by simpa using ra)⟩
theorem pM(I:Inv X pins σ H s):∀{ds:List PyData} {xs:List V} {us:List Value},RpL X.K U H ds xs->Vals xs us->∃as,ReadsAll s.heap us ds as
 |_,_,_,.nil,.nil=>⟨_,.nil⟩
 |_,_,_,.cons h t,.cons r q=>by
  obtain⟨as,ra⟩:=gh I h r
  obtain⟨bs,rb⟩:=pM I t q
  exact⟨_,.cons ra rb⟩
end
end
section
variable {X:Cx}
noncomputable def RH(K:PySem.W.Frag)(neg:Bool):R2:=fun x y H Q=>∃U a b,Rp K U H a x/\Rp K U H b y/\SeqAt.shaped a=true/\SeqAt.shaped b=true/\Q (.bl (neg ^^ PyData.eqv a b)) H
theorem cg(hu:X.A.units+64<cLine):OpR X (compareOp .Eq) (RH X.K false):=by
 intro pins s σ H x y v u Q I rx ry h
 obtain⟨U,a,b,ha,hb,sa,sb,q⟩:=h
 obtain⟨as,ra⟩:=gh I ha rx
 obtain⟨bs,rb⟩:=gh I hb ry
 exact eq_dataH ra rb sa sb hu ⟨.bl (PyData.eqv a b),H,I,rfl,by simpa using q⟩
theorem jV(hu:X.A.units+64<cLine):OpR X (compareOp .NotEq) (RH X.K true):=by
 intro pins s σ H x y v u Q I rx ry h
 obtain⟨U,a,b,ha,hb,sa,sb,q⟩:=h
 obtain⟨as,ra⟩:=gh I ha rx
 obtain⟨bs,rb⟩:=gh I hb ry
 exact ne_dataH ra rb sa sb hu ⟨.bl (!PyData.eqv a b),H,I,rfl,by simpa using q⟩
noncomputable def cU(neg:Bool):D->D->Mu->DK->Prop:=fun x y U Q=>match x,y with
 |.v a,.v b=>SeqAt.shaped a=true/\SeqAt.shaped b=true/\Q (.v (.bool (neg ^^ PyData.eqv a b))) U
 |_,_=>False
theorem bA{K:PySem.W.Frag}{neg:Bool}:jJ K (RH K neg) (cU neg):=by
 intro x y ux uy H U Qd Q ok rx ry h k
 unfold cU at h
 split at h
 ·rename_i a b
  exact⟨U,a,b,rx,ry,h.1,h.2.1,k (.v _) _ U H .refl ok (Rp.bool _) h.2.2⟩
 ·exact h.elim
noncomputable def Qz(K:PySem.W.Frag)(neg:Bool):R2:=fun x y H Q=>∃U a bs,Rp K U H a x/\Rp K U H (.list bs) y/\PyData.canLayAll0 bs=true/\a.canLay0=true/\PyData.depth a<=60/\Q (.bl (neg ^^ bs.any fun b=>PyData.eqv b a)) H
theorem UN(hu:X.A.units+64<cLine):OpR X (compareOp .In) (Qz X.K false):=by
 intro pins s σ H x y v u Q I rx ry h
 obtain⟨U,a,b,ha,hb,sb,sa,dp,q⟩:=h
 obtain⟨as,ra⟩:=gh I ha rx
 obtain⟨bs,rb⟩:=gh I hb ry
 refine SeqAt.in_list_reads rb ra sb sa ∅ ⟨.bl (b.any fun z=>PyData.eqv z a),H,I,rfl,by simpa using q⟩
theorem K2(hu:X.A.units+64<cLine):OpR X (compareOp .NotIn) (Qz X.K true):=by
 intro pins s σ H x y v u Q I rx ry h
 obtain⟨U,a,b,ha,hb,sb,sa,dp,q⟩:=h
 obtain⟨as,ra⟩:=gh I ha rx
 obtain⟨bs,rb⟩:=gh I hb ry
 refine SeqAt.notIn_list_reads rb ra sb sa ∅ ⟨.bl (!b.any fun z=>PyData.eqv z a),H,I,rfl,by simpa using q⟩
noncomputable def Pl(neg:Bool):D->D->Mu->DK->Prop:=fun x y U Q=>match x,y with
 |.v a,.v (.list bs)=>PyData.canLayAll0 bs=true/\a.canLay0=true/\PyData.depth a<=60/\Q (.v (.bool (neg ^^ bs.any fun b=>PyData.eqv b a))) U
 |_,_=>False
theorem RM{K:PySem.W.Frag}{neg:Bool}:jJ K (Qz K neg) (Pl neg):=by
 intro x y ux uy H U Qd Q ok rx ry h k
 unfold Pl at h
 split at h
 ·rename_i a b
  exact⟨U,a,b,rx,ry,h.1,h.2.1,h.2.2.1,k (.v _) _ U H .refl ok (Rp.bool _) h.2.2.2⟩
 ·exact h.elim
end
section
variable {X:Cx}{a b e:Expr}{es:List Expr}{ta tb te:DTE}{t:DTA}{p pos:Pos}
noncomputable def aF:D->D->Mu->DK->Prop:=fun x y U Q=>match x,y with
 |.v (.list xs),.v (.int i)=>(match atI xs i with|some d=>Q (.v d) U|none=>False)
 |.v (.tuple xs),.v (.int i)=>(match atI xs i with|some d=>Q (.v d) U|none=>False)
 |.m l,.v (.int i)=>(match U l with
  |some xs=>(match atI xs i with|some d=>Q (.v d) U|none=>False)
  |none=>False)
 |.s ns,.v (.int i)=>(match atI ns i with|some d=>Q (.v (.int d)) U|none=>False)
 |_,_=>False
theorem TC{K:PySem.W.Frag}:jJ K (rIx K) aF:=by
 intro x y ux uy H U Qd Q ok rx ry h k
 unfold aF at h
 split at h
 ·rename_i xs i
  cases ry
  cases q:atI xs i with
  |none=>rw[q] at h;exact h.elim
  |some d=>
   rw[q] at h
   cases rx with
   |list hs hn r=>
    obtain⟨u,e1,e2⟩:=Hq r q
    exact .inl ⟨_,_,i,u,rfl,rfl,SqL.of hs,e1,k (.v d) u U H .refl ok e2 h⟩
 ·rename_i xs i
  cases ry
  cases q:atI xs i with
  |none=>rw[q] at h;exact h.elim
  |some d=>
   rw[q] at h
   cases rx with
   |tuple hs r=>
    obtain⟨u,e1,e2⟩:=Hq r q
    exact .inr (.inl ⟨_,_,i,u,rfl,rfl,hs,e1,k (.v d) u U H .refl ok e2 h⟩)
 ·rename_i l i
  cases ry
  obtain⟨rfl,ds,hm⟩:=rx
  rw[hm] at h
  simp only at h
  cases q:atI ds i with
  |none=>rw[q] at h;exact h.elim
  |some d=>
   rw[q] at h
   obtain⟨us,hl,r⟩:=ok l ds hm
   obtain⟨u,e1,e2⟩:=Hq r q
   exact .inl ⟨_,_,i,u,rfl,rfl,SqL.of hl,e1,k (.v d) u U H .refl ok e2 h⟩
 ·rename_i ns i
  cases ry
  obtain⟨a,rfl,hs,hn⟩:=rx
  cases q:atI ns i with
  |none=>rw[q] at h;exact h.elim
  |some d=>
   rw[q] at h
   have e1:atI (ns.map V.int) i=some (.int d):=by
    unfold atI at q ⊢
    rw[length_map]
    cases z:ixN ns.length i with
    |none=>rw[z] at q;cases q
    |some j=>
     rw[z] at q
     simp only[bind_some,getElem?_map] at q ⊢
     rw[q]<;>rfl
   exact .inl ⟨_,_,i,_,rfl,rfl,hs,e1,k (.v (.int d)) _ U H .refl ok (Rp.int d) h⟩
 ·exact h.elim
theorem az(ha:DE X a ta)(hb:DE X b tb)(hs:Iu b:=by exact fun _ _=>rfl):DE X (.Subscript a b pos) (dOp aF ta tb):=by
 obtain⟨t1,p1,l1⟩:=ha
 obtain⟨t2,p2,l2⟩:=hb
 exact⟨_,TM RO p1 p2 hs,xy TC l1 l2⟩
theorem Lw{prog:Program}{w:World}{A:Around}{E:Value->Shared->Prop}{s:Shared}{t b:Addr}{ws:List Value}{Q:Value->Shared->Prop}(ht:IsTup s.heap t #[])(hb:IsTup s.heap b ws.toArray)
  (h1:Q (.ref b) s):wpAny (model prog w) A (binaryOp .Add (.ref t) (.ref b)) Q E s:=by
 obtain⟨⟨cls,dd,data,sl⟩,ho,hc,n,hd⟩:=id ht
 obtain⟨⟨cls2,dd2,data2,sl2⟩,ho2,hc2,n2,hd2⟩:=id hb
 simp only at hc hd hc2 hd2
 subst hc hd hc2 hd2
 exact concat_meets ⟨_,ho,rfl⟩ ⟨_,ho2,rfl⟩ noFill_tuple_add seq_tuple_add PySem.F.slot_tuple_add PySem.F.entry_tuple_add (PySem.F.args_tuple_add_2 _ _)
  (tuple_addW0 t b #[] ws.toArray n n2 dd dd2 sl sl2 rfl) ⟨ho,ho2,h1⟩
noncomputable def qM(U:Mu):D->Option (List PyData)
 |.v (.list xs)=>some xs
 |.m l=>U l
 |_=>none
theorem EF{K:PySem.W.Frag}{U:Mu}{H:Hp}{x:D}{u:V}{xs:List PyData}(ok:bC K U H)(r:RpD K U H x u)(h:qM U x=some xs):∃a us,u = .ref a/\H a=some (.lst us)/\RpL K U H xs us:=by
 cases x with
 |v d=>
  cases d<;>simp only[qM] at h<;>try cases h
  cases r with
  |list hs _ q=>exact⟨_,_,rfl,hs,q⟩
 |m l=>
  obtain⟨rfl,ds,hm⟩:=r
  obtain⟨us,hl,q⟩:=ok l xs h
  exact⟨l,us,rfl,hl,q⟩
 |s ns=>cases h
 |o a=>cases h
 |b a=>cases h
 |q P=>cases h
noncomputable def BG:D->D->Mu->DK->Prop:=fun x y U Q=>match qM U x,qM U y with
 |some xs,some ys=>xs.length+ys.length<=1000/\Q (.v (.list (xs++ys))) U
 |_,_=>False
theorem DD{n:Nat}(h:n<=1000):n<=sizeLine:=Nat.le_of_lt (iu h)
theorem L9{K:PySem.W.Frag}:jJ K Rq BG:=by
 intro x y ux uy H U Qd Q ok rx ry h k
 unfold BG at h
 split at h
 ·rename_i xs ys hx hy
  obtain⟨a,us,rfl,ha,ra⟩:=EF ok rx hx
  obtain⟨b,ws,rfl,hb,rb⟩:=EF ok ry hy
  refine⟨a,b,us,ws,rfl,rfl,ha,hb,DD (by rw[<- ra.length,<- rb.length];exact h.1),fun p hp=>?_⟩
  exact k (.v _) _ U _ (dM hp) (ok.new hp) (jC ok (ra.append rb) hp) h.2
 ·exact h.elim
theorem Rx(ha:DE X a ta)(hb:DE X b tb):DE X (.BinOp a .Add b pos) (dOp BG ta tb):=sP MD L9 ha hb
noncomputable def Hf(K:PySem.W.Frag):R2:=fun x y H Q=>∃a b xs ys,x = .ref a/\y = .ref b/\SqT K H a xs/\SqT K H b ys/\xs.length+ys.length<=sizeLine /\
 (xs=[]->Q (.ref b) H)/\(ys=[]->Q (.ref a) H)/\(∀p,H p=none->Q (.ref p) (upd H p (.tup (xs++ys))))
theorem L4:OpR X (binaryOp .Add) (Hf X.K):=by
 intro pins s σ H x y v u Q I rx ry h
 obtain⟨a,b,xs,ys,rfl,rfl,ha,hb,hz,q0,q1,q2⟩:=h
 by_cases hx:xs=[]
 ·subst hx
  cases rx
  cases ry
  obtain⟨its,r1,p1,_⟩:=I.tuple ha
  obtain⟨its2,r2,p2,_⟩:=I.tuple hb
  cases r1
  exact Lw p1 p2 ⟨.ref b,H,I,rfl,q0 rfl⟩
 ·exact Od pins s σ H _ _ v u Q I rx ry ⟨a,b,xs,ys,rfl,rfl,ha,hb,hx,hz,q1,fun _=>q2⟩
noncomputable def Mh:D->D->Mu->DK->Prop:=fun x y U Q=>match x,y with
 |.v (.tuple xs),.v (.tuple ys)=>xs.length+ys.length<=1000/\Q (.v (.tuple (xs++ys))) U
 |_,_=>False
theorem OJ{K:PySem.W.Frag}:jJ K (Hf K) Mh:=by
 intro x y ux uy H U Qd Q ok rx ry h k
 unfold Mh at h
 split at h
 ·rename_i xs ys
  cases id rx with
  |@tuple a us _ ha ra=>
   cases id ry with
   |@tuple b ws _ hb rb=>
    refine⟨a,b,us,ws,rfl,rfl,ha,hb,DD (by rw[<- ra.length,<- rb.length];exact h.1),fun z=>?_,fun z=>?_,fun p hp=>?_⟩
    ·subst z
     cases ra
     exact k (.v _) _ U H .refl ok ry (by simpa using h.2)
    ·subst z
     cases rb
     exact k (.v _) _ U H .refl ok rx (by simpa using h.2)
    ·exact k (.v _) _ U _ (dM hp) (ok.new hp) (iq ok (ra.append rb) hp) h.2
 ·exact h.elim
end
end L2.DL
namespace HT
open PySem PyProof.Rows
section
variable {prog:Program}{w:World}{A:Around}{E:Value->Shared->Prop}{s:Shared}
theorem tm{t sl:Addr}{items:Array Value}{vl vu:Value}{lo hi:Option Int}{Q:Value->Shared->Prop}(ht:IsTup s.heap t items)(hs:s.heap.IsSliceOf sl vl vu .none)(pl:IsPart vl lo)(pu:IsPart vu hi)
  (hw:sIx items.size 0 lo=0/\sIx items.size items.size hi=items.size) (h:Q (.ref t) s):wpAny (model prog w) A (getItem (.ref t) (.ref sl)) Q E s:=by
 obtain⟨os,hos,hcs,hds⟩:=id hs
 have hTs:s.TypeIs (.ref sl) "slice":=⟨os,hos,hcs⟩
 unfold getItem
 try with_reducible refine wpAny_holding ?_
 first|refine wpAny_bind (wpAny_pure ?_)|skip
 refine wpAny_bind (wpAny_sequenceKey ht.typeIs ⋯ ?_)
 refine wpAny_bind (wpAny_callSpecial?_slot (name:=Str.ofString "__getitem__") ht.typeIs PyProof.Rows.slot_tuple_getitem
  (wpAny_call_entry PyProof.Rows.slot_tuple_getitem ht.typeIs entry_tuple_getitem ?_ (args_tuple_getitem _ _)))
 show wpAny _ _ (Builtin.Tuple.tupleItemsOf (.ref t)>>=_) _ _ s
 refine wpAny_bind (tupleItemsOf_ ht ?_)
 refine wpAny_bind (wpAny_typeOf hTs ?_)
 rw[if_pos ⋯]
 refine wpAny_bind (lU hs pl pu ?_)
 have hno:((((sIx items.size 0 lo:Nat):Int)==0&&(1:Int)==1&&(sIx items.size items.size hi-sIx items.size 0 lo)==items.size)=true):=by
  rw[hw.1,hw.2]
  simp
 show wpAny _ _ (if (((sIx items.size 0 lo:Nat):Int)==0&&(1:Int)==1&&(sIx items.size items.size hi-sIx items.size 0 lo)==items.size)=true then _ else _) _ _ s
 rw[if_pos hno]
 refine wpAny_bind ?_
 unfold Builtin.Tuple.tupleIsExact
 refine wpAny_bind (wpAny_typeOf ht.typeIs (wpAny_pure ?_))
 rw[if_pos ⋯]
 refine wpAny_bind (wpAny_rule ?_)
 exact wpAny_pure ⟨_,rfl,wpAny_pure h⟩
end
end HT
namespace L2.DL
open PySem PySem.Spec PyProof.Rows
section
variable {X:Cx}{a b e:Expr}{lo hi:Option Expr}{ta tb te:DTE}{pos p2:Pos}
noncomputable def lC{α:Type}(xs:List α)(lo hi:Option Int):List α:=(xs.drop (HT.sIx xs.length 0 lo)).take (HT.sIx xs.length xs.length hi-HT.sIx xs.length 0 lo)
theorem RpL.cut{K:PySem.W.Frag}{U:Mu}{H:Hp}{ds:List PyData}{us:List V}{lo hi:Option Int}(r:RpL K U H ds us):RpL K U H (lC ds lo hi) (Ej us lo hi):=by
 unfold lC Ej
 rw[r.length]
 exact (r.drop _).take _
theorem OV{α:Type}{xs:List α}{lo hi:Option Int}(h:HT.sIx xs.length 0 lo=0/\HT.sIx xs.length xs.length hi=xs.length):lC xs lo hi=xs:=by
 unfold lC
 rw[h.1,h.2]
 simp
noncomputable def Ul(K:PySem.W.Frag):V->Option Int->Option Int->Hp->VK->Prop:=fun x lo hi H Q=>∃a xs,x = .ref a/\SqT K H a xs /\
 (HT.sIx xs.length 0 lo=0/\HT.sIx xs.length xs.length hi=xs.length->Q (.ref a) H)/\∀p,H p=none->Q (.ref p) (upd H p (.tup (Ej xs lo hi)))
theorem Pz:SlR X (Ul X.K):=by
 intro pins s σ H x v vl vu lo hi sl Q I rx hs pl pu h
 obtain⟨a,xs,rfl,hx,q1,q⟩:=h
 by_cases hw:HT.sIx xs.length 0 lo=0/\HT.sIx xs.length xs.length hi=xs.length
 ·cases rx
  obtain⟨its,r,ht,hz⟩:=I.tuple hx
  have hlen:its.toArray.size=xs.length:=by rw[size_toArray];exact r.length.symm
  refine⟨"tuple",_,PyProof.Rows.slot_tuple_getitem.lookup,ht.typeIs,?_⟩
  exact HT.tm ht hs pl pu (by rw[hlen];exact hw) ⟨.ref a,H,I,rfl,q1 hw⟩
 ·exact Rn pins s σ H _ v vl vu lo hi sl Q I rx hs pl pu ⟨a,xs,rfl,hx,hw,q⟩
noncomputable abbrev DTO:=Rho->Mu->(Option Int->Mu->Prop)->Prop
noncomputable def TU(K:PySem.W.Frag)(t:TO)(td:DTO):Prop:=∀(σ:St) (H:Hp) (ρ:Rho) (U:Mu) (Qd:Option Int->Mu->Prop) (Q:Option Int->Hp->Prop),St0 K H ρ U σ->td ρ U Qd ->
 (∀o Z H',Ext K U H Z H'->St0 K H' ρ Z σ->Qd o Z->Q o H')->t σ H Q
noncomputable def DO(X:Cx)(e:Option Expr)(td:DTO):Prop:=∃t,PO X e t/\TU X.K t td
noncomputable def ka:DTO:=fun _ U Q=>Q none U
noncomputable def wg(t:DTE):DTO:=fun ρ U Q=>t ρ U fun x ad=>match x with
 |.v (.int i)=>Q (some i) ad
 |_=>False
theorem pZ:DO X none ka:=⟨_,O2,fun σ H ρ U Qd Q S h k=>k none U H .refl S h⟩
theorem p7(h:DE X e te):DO X (some e) (wg te):=by
 obtain⟨t1,p1,l1⟩:=h
 refine⟨_,Pt p1,fun σ H ρ U Qd Q S h k=>?_⟩
 refine l1 σ H ρ U _ _ S h fun x ux ad H1 e1 S1 rx h1=>?_
 split at h1
 ·cases rx
  exact⟨_,rfl,k _ ad H1 e1 S1 h1⟩
 ·exact h1.elim
noncomputable def JY(x:D)(lo hi:Option Int)(U:Mu)(Q:DK):Prop:=match x with
 |.v (.tuple xs)=>Q (.v (.tuple (lC xs lo hi))) U
 |.v (.list xs)=>Q (.v (.list (lC xs lo hi))) U
 |.m l=>(match U l with|some xs=>Q (.v (.list (lC xs lo hi))) U|none=>False)
 |_=>False
noncomputable def dSl(te:DTE)(tl th:DTO):DTE:=fun ρ U Q=>te ρ U fun x ad=>tl ρ ad fun l am=>th ρ am fun u bi=>JY x l u bi Q
theorem lM{tl th:DTO}(he:DE X e te)(hl:DO X lo tl)(hu:DO X hi th):DE X (.Subscript e (.Slice lo hi none p2) pos) (dSl te tl th):=by
 obtain⟨t1,p1,l1⟩:=he
 obtain⟨t2,p2,l2⟩:=hl
 obtain⟨t3,p3,l3⟩:=hu
 refine⟨_,NC (OD.or Pz) p1 p2 p3,fun σ H ρ U Qd Q S h k=>?_⟩
 refine l1 σ H ρ U _ _ S h fun x ux ad H1 e1 S1 rx h1=>?_
 refine l2 σ H1 ρ ad _ _ S1 h1 fun l am H2 e2 S2 h2=>?_
 refine l3 σ H2 ρ am _ _ S2 h2 fun u bi H3 e3 S3 h3=>?_
 have rx3:=(rx.ext S1.mu e2).ext S2.mu e3
 have ee:=e1.trans (e2.trans e3)
 unfold JY at h3
 split at h3
 ·rename_i xs
  cases id rx3 with
  |@tuple a us _ ha ra=>
   refine .inr ⟨a,us,rfl,ha,fun hw=>?_,fun p hp=>?_⟩
   ·refine k (.v _) _ bi H3 ee S3 (show Rp _ _ _ (.tuple (lC xs l u)) _ from ?_) h3
    rw[OV (by rw[ra.length];exact hw)]
    exact rx3
   ·exact k (.v _) _ bi _ (ee.trans (dM hp)) (S3.new hp) (iq S3.mu ra.cut hp) h3
 ·rename_i xs
  cases id rx3 with
  |@list a us _ ha hn ra=>exact .inl ⟨a,us,rfl,SqL.of ha,fun p hp=>k (.v _) _ bi _ (ee.trans (dM hp)) (S3.new hp) (jC S3.mu ra.cut hp) h3⟩
 ·rename_i a
  obtain⟨rfl,ds,hm⟩:=rx3
  rw[hm] at h3
  obtain⟨us,ha,ra⟩:=S3.mu a ds hm
  exact .inl ⟨a,us,rfl,SqL.of ha,fun p hp=>k (.v _) _ bi _ (ee.trans (dM hp)) (S3.new hp) (jC S3.mu ra.cut hp) h3⟩
 ·exact h3.elim
end
section
variable {X:Cx}{a b e:Expr}{es:List Expr}{ta tb te:DTE}{t:DTA}{p pos:Pos}{x:Str}{bid T:String}
noncomputable def nQ(K:PySem.W.Frag)(r:List V->Hp->VK->Prop)(rd:List D->Mu->DK->Prop):Prop:=∀(xs:List D) (us:List V) (H:Hp) (U:Mu) (Qd:DK) (Q:VK),bC K U H->jO K U H xs us->rd xs U Qd ->
 (∀d u Z H',Ext K U H Z H'->bC K Z H'->RpD K Z H' d u->Qd d Z->Q u H')->r us H Q
noncomputable def dCB(rd:List D->Mu->DK->Prop)(t:DTA):DTE:=fun ρ U Q=>t ρ U fun ds ad=>rd ds ad Q
theorem ID{K:PySem.W.Frag}{n:Nat}{r:List V->Hp->VK->Prop}{rd:List D->Mu->DK->Prop}{t1:TA}(lc:nQ K r rd)(l1:Qq K n t1 t):uj K (tCB r t1) (dCB rd t):=by
 intro σ H ρ U Qd Q S h k
 refine l1 σ H ρ U _ _ S h fun xs us ad H1 e1 S1 rs len h1=>?_
 exact lc xs us H1 ad _ _ S1.mu rs h1 fun d u Z H' e2 ok r q=>k d u Z H' (e1.trans e2) ⟨ok,S1.rho.ext S1.mu e2⟩ r q
theorem jx{r:List V->Hp->VK->Prop}{rd:List D->Mu->DK->Prop}(hc:jc X (.builtin bid) r)(lc:nQ X.K r rd)(hg:Gl X x)(hm:X.mg x=none)(hv:bootBuiltins x=some (.builtin bid))(ha:DA X (e::es) t)(hn:x ≠ "__name__":=by decide)(hdb:(x==("__debug__":Str))=false:=by decide)
  (he:starEach (e::es) X.env=(false,eval e X.env)::starEach es X.env:=by rfl) (hpl:(backTo pos (starEach es X.env)).any (·.1)=false:=by rfl):DE X (.Call (.Name x p) (e::es) [] pos) (dCB rd t):=by
 obtain⟨t1,p1,l1⟩:=ha
 exact⟨_,tE hc hg hm hv p1 hn hdb he hpl,ID lc l1⟩
theorem vv{r:List V->Hp->VK->Prop}{rd:List D->Mu->DK->Prop}(hc:jc X (.type T) r)(lc:nQ X.K r rd)(hg:Gl X x)(hm:X.mg x=none)(hv:bootBuiltins x=some (.type T))(ha:DA X (e::es) t)(hn:x ≠ "__name__":=by decide)(hdb:(x==("__debug__":Str))=false:=by decide)
  (he:starEach (e::es) X.env=(false,eval e X.env)::starEach es X.env:=by rfl) (hpl:(backTo pos (starEach es X.env)).any (·.1)=false:=by rfl):DE X (.Call (.Name x p) (e::es) [] pos) (dCB rd t):=by
 obtain⟨t1,p1,l1⟩:=ha
 exact⟨_,K3 hc hg hm hv p1 hn hdb he hpl,ID lc l1⟩
noncomputable def cR:List D->Mu->DK->Prop:=fun xs U Q=>match xs with
 |[.v (.list ys)]=>Q (.v (.int (ys.length:Nat))) U
 |[.v (.tuple ys)]=>Q (.v (.int (ys.length:Nat))) U
 |[.m l]=>(match U l with|some ys=>Q (.v (.int (ys.length:Nat))) U|none=>False)
 |[.s ns]=>Q (.v (.int (ns.length:Nat))) U
 |_=>False
theorem R8{K:PySem.W.Frag}:nQ K (fun xs H Q=>∃p ys,xs=[.ref p]/\(SqL K H p ys\/SqT K H p ys)/\Q (.int ys.length) H) cR:=by
 intro xs us H U Qd Q ok rs h k
 unfold cR at h
 split at h
 ·cases rs with
  |cons r1 r2=>
   cases r2
   cases r1 with
   |list hs hn r=>exact⟨_,_,rfl,.inl (SqL.of hs),k (.v _) _ U H .refl ok (by rw[<- r.length];exact Rp.int _) h⟩
 ·cases rs with
  |cons r1 r2=>
   cases r2
   cases r1 with
   |tuple hs r=>exact⟨_,_,rfl,.inr hs,k (.v _) _ U H .refl ok (by rw[<- r.length];exact Rp.int _) h⟩
 ·cases rs with
  |cons r1 r2=>
   cases r2
   obtain⟨rfl,ds,hm⟩:=r1
   rw[hm] at h
   obtain⟨us,hl,r⟩:=ok _ ds hm
   exact⟨_,_,rfl,.inl (SqL.of hl),k (.v _) _ U H .refl ok (by rw[<- r.length];exact Rp.int _) h⟩
 ·cases rs with
  |cons r1 r2=>
   cases r2
   obtain⟨a,rfl,hs,hn⟩:=r1
   exact⟨_,_,rfl,.inl hs,k (.v _) _ U H .refl ok (by rw[length_map];exact Rp.int _) h⟩
 ·exact h.elim
theorem cG(hg:Gl X "len")(hm:X.mg "len"=none)(ha:DA X (e::es) t)
  (he:starEach (e::es) X.env=(false,eval e X.env)::starEach es X.env:=by rfl) (hpl:(backTo pos (starEach es X.env)).any (·.1)=false:=by rfl):DE X (.Call (.Name "len" p) (e::es) [] pos) (dCB cR t):=
 jx Eh R8 hg hm PySem.boot_len ha ⋯ ⋯ he hpl
noncomputable def uI:List D->Mu->DK->Prop:=fun xs U Q=>match xs with
 |[.v (.int i)]=>Q (.v (.int (i.natAbs:Nat))) U
 |_=>False
theorem Rm{K:PySem.W.Frag}:nQ K (fun xs H Q=>∃i,xs=[.int i]/\Q (.int (if i<0 then -i else i)) H) uI:=by
 intro xs us H U Qd Q ok rs h k
 unfold uI at h
 split at h
 ·rename_i i
  cases rs with
  |cons r1 r2=>
   cases r2
   cases r1
   refine⟨i,rfl,k (.v (.int (i.natAbs:Nat))) _ U H .refl ok ?_ h⟩
   have:(if i<0 then -i else i)=((i.natAbs:Nat):Int):=by split<;>omega
   rw[this]
   exact Rp.int _
 ·exact h.elim
theorem yu(hg:Gl X "abs")(hm:X.mg "abs"=none)(ha:DA X (e::es) t)
  (he:starEach (e::es) X.env=(false,eval e X.env)::starEach es X.env:=by rfl) (hpl:(backTo pos (starEach es X.env)).any (·.1)=false:=by rfl):DE X (.Call (.Name "abs" p) (e::es) [] pos) (dCB uI t):=
 jx Ms Rm hg hm PyProof.Rows.Boot.«abs» ha ⋯ ⋯ he hpl
noncomputable def DY(g:Int->Int->Int):List D->Mu->DK->Prop:=fun xs U Q=>match xs with
 |[.v (.int i),.v (.int j)]=>Q (.v (.int (g i j))) U
 |_=>False
theorem Ql{K:PySem.W.Frag}{g g':Int->Int->Int}(hg:∀i j,g i j=g' i j):nQ K (fun xs H Q=>∃i j,xs=[.int i,.int j]/\Q (.int (g i j)) H) (DY g'):=by
 intro xs us H U Qd Q ok rs h k
 unfold DY at h
 split at h
 ·rename_i i j
  cases rs with
  |cons r1 r2=>
   cases r2 with
   |cons r2 r3=>
    cases r3
    cases r1
    cases r2
    exact⟨i,j,rfl,k (.v _) _ U H .refl ok (by rw[hg];exact Rp.int _) h⟩
 ·exact h.elim
theorem Sn(hc:X.calm=true)(hg:Gl X "max")(hm:X.mg "max"=none)(ha:DA X (e::es) t)
  (he:starEach (e::es) X.env=(false,eval e X.env)::starEach es X.env:=by rfl) (hpl:(backTo pos (starEach es X.env)).any (·.1)=false:=by rfl):DE X (.Call (.Name "max" p) (e::es) [] pos) (dCB (DY max) t):=
 jx (KH hc) (Ql (fun i j=>by show (if j>i then j else i)=max i j;simp only[Int.max_def];split<;>split<;>omega)) hg hm PyProof.Rows.Boot.«max» ha ⋯ ⋯ he hpl
theorem Hm(hc:X.calm=true)(hg:Gl X "min")(hm:X.mg "min"=none)(ha:DA X (e::es) t)
  (he:starEach (e::es) X.env=(false,eval e X.env)::starEach es X.env:=by rfl) (hpl:(backTo pos (starEach es X.env)).any (·.1)=false:=by rfl):DE X (.Call (.Name "min" p) (e::es) [] pos) (dCB (DY min) t):=
 jx (KS hc) (Ql (fun i j=>by show (if j<i then j else i)=min i j;simp only[Int.min_def];split<;>split<;>omega)) hg hm PyProof.Rows.Boot.«min» ha ⋯ ⋯ he hpl
noncomputable def tT:List D->Mu->DK->Prop:=fun xs U Q=>match xs with
 |[.v (.int i)]=>Q (.v (.int i)) U
 |[.v (.bool k)]=>Q (.v (.int (if k then 1 else 0))) U
 |_=>False
theorem Sm{K:PySem.W.Frag}:nQ K (fun xs H Q=>(∃i,xs=[.int i]/\Q (.int i) H)\/∃k,xs=[.bl k]/\Q (.int (if k then 1 else 0)) H) tT:=by
 intro xs us H U Qd Q ok rs h k
 unfold tT at h
 split at h
 ·rename_i i
  cases rs with
  |cons r1 r2=>cases r2;cases r1;exact .inl ⟨i,rfl,k (.v _) _ U H .refl ok (Rp.int _) h⟩
 ·rename_i b
  cases rs with
  |cons r1 r2=>cases r2;cases r1;exact .inr ⟨b,rfl,k (.v _) _ U H .refl ok (Rp.int _) h⟩
 ·exact h.elim
theorem pf(hg:Gl X "int")(hm:X.mg "int"=none)(ha:DA X (e::es) t)
  (he:starEach (e::es) X.env=(false,eval e X.env)::starEach es X.env:=by rfl) (hpl:(backTo pos (starEach es X.env)).any (·.1)=false:=by rfl):DE X (.Call (.Name "int" p) (e::es) [] pos) (dCB tT t):=
 vv Kc Sm hg hm PyProof.Rows.Boot.«int» ha ⋯ ⋯ he hpl
theorem GI:∀{bs:List Bool} {us:List Value},Vals (bs.map V.bl) us->us=bs.map Value.bool
 |[],_,.nil=>rfl
 |b::r,_,.cons h t=>by cases h;rw[GI t];rfl
theorem Kz(hc:X.calm=true):jc X (.builtin "all") (fun xs H Q=>∃(p:Addr) (bs:List Bool),xs=[.ref p]/\H p=some (.lst (bs.map V.bl))/\Q (.bl (bs.all id)) H):=by
 intro pins s σ H xs us Q I r h
 obtain⟨l,bs,rfl,hl,q⟩:=h
 obtain⟨u,rfl,rx⟩:=vals1 r
 cases rx
 obtain⟨its,rv,pl,_⟩:=I.list (SqL.of hl)
 have eb:=GI rv
 subst eb
 have hL:=pl.isList
 have hlt:=pl.lt
 refine call_all_walk (wpAny_pyIter_list hL ?_)
 refine⟨s.heap.objs.size,[s.heap.objs.size,l],[s.heap.objs.size],(bs.map Value.bool).toArray.size,_,_,fun i=>(bs[i]?).getD true,rfl,Walks.list (A:=X.A.in1) (by exact I.ok.hd hc) _ l (ne_of_lt hlt) (bs.map Value.bool).toArray,
  ⟨⟨_,Heap.get?_push_size _ rfl,rfl,rfl⟩,hL.push _⟩,fun i v s' Q' E' hP hQ=>?_,fun h' tk hk=>?_⟩
 ·have hP':(bs.map Value.bool)[i]? = some v:=by simpa using hP
  rw[getElem?_map] at hP'
  cases z:bs[i]? with
  |none=>rw[z] at hP';cases hP'
  |some b=>
   rw[z] at hP'
   cases hP'
   simp only[z,Option.getD_some] at hQ
   exact wpAny_truthy_bool hQ
 ·have e:((List.range (bs.map Value.bool).toArray.size).all fun i=>(bs[i]?).getD true)=bs.all id:=by
   rw[size_toArray,length_map];exact PyProof.Rows.LSm.range_all bs
  rw[e]
  exact⟨.bl (bs.all id),H,I.kept (PyProof.Rows.LSm.kept_iter hk),rfl,q⟩
noncomputable def dj:List PyData->Option (List Bool)
 |[]=>some []
 |.bool b::r=>(dj r).map (b::·)
 |_::_=>none
theorem x9{K:PySem.W.Frag}{U:Mu}{H:Hp}:∀{xs:List PyData} {us:List V} {bs:List Bool},RpL K U H xs us->dj xs=some bs->us=bs.map V.bl
 |_,_,_,.nil,e=>by cases e;rfl
 |.bool b::r,_,bs,.cons h t,e=>by
  simp only[dj] at e
  cases q:dj r with
  |none=>rw[q] at e;cases e
  |some cs=>rw[q] at e;cases e;cases h;rw[x9 t q];rfl
 |.none::r,_,bs,.cons h t,e=>by simp[dj] at e
 |.int _::r,_,bs,.cons h t,e=>by simp[dj] at e
 |.str _::r,_,bs,.cons h t,e=>by simp[dj] at e
 |.list _::r,_,bs,.cons h t,e=>by simp[dj] at e
 |.tuple _::r,_,bs,.cons h t,e=>by simp[dj] at e
 |.dict _::r,_,bs,.cons h t,e=>by simp[dj] at e
noncomputable def FN:List D->Mu->DK->Prop:=fun xs U Q=>match xs with
 |[.v (.list ys)]=>(match dj ys with|some bs=>Q (.v (.bool (bs.all id))) U|none=>False)
 |_=>False
theorem Sl{K:PySem.W.Frag}:nQ K (fun xs H Q=>∃(p:Addr) (bs:List Bool),xs=[.ref p]/\H p=some (.lst (bs.map V.bl))/\Q (.bl (bs.all id)) H) FN:=by
 intro xs us H U Qd Q ok rs h k
 unfold FN at h
 split at h
 ·rename_i ys
  cases q:dj ys with
  |none=>rw[q] at h;exact h.elim
  |some bs=>
   rw[q] at h
   cases rs with
   |cons r1 r2=>
    cases r2
    cases r1 with
    |list hs hn r=>exact⟨_,bs,rfl,by rw[hs,x9 r q],k (.v _) _ U H .refl ok (Rp.bool _) h⟩
 ·exact h.elim
theorem Sx(hc:X.calm=true)(hg:Gl X "all")(hm:X.mg "all"=none)(ha:DA X (e::es) t)
  (he:starEach (e::es) X.env=(false,eval e X.env)::starEach es X.env:=by rfl) (hpl:(backTo pos (starEach es X.env)).any (·.1)=false:=by rfl):DE X (.Call (.Name "all" p) (e::es) [] pos) (dCB FN t):=
 jx (Kz hc) Sl hg hm PyProof.Rows.Boot.«all» ha ⋯ ⋯ he hpl
noncomputable def tyD:PyData->String
 |.none=>"NoneType"
 |.bool _=>"bool"
 |.int _=>"int"
 |.str _=>"str"
 |.list _=>"list"
 |.tuple _=>"tuple"
 |.dict _=>"dict"
noncomputable def isT(T:String)(d:PyData):Bool:=tyD d==T || (T == "int"&&tyD d == "bool")
theorem Kf{pins:List (Addr×Obj)}{σ:St}{H:Hp}{s:Shared}{U:Mu}{d:PyData}{u:V}{v:Value}{k:Bool}{A:Around}{E:Value->Shared->Prop}{Q:Value->Shared->Prop}(I:Inv X pins σ H s)(r:Rp X.K U H d u)(rx:RelV u v)
  (ek:kitOne X.K (.type (tyD d)) (.type T)=some k) (h:∀tk,Q (.bool k) {s with toks:=tk}):wpAny (model X.prog X.w) A (call (.builtin "isinstance") [v,.type T]) Q E s:=by
 cases r with
 |none=>cases rx;exact kia_one PySem.W.kitx_none I.kIn True.intro ek (fun z=>nomatch z) h
 |bool b=>cases rx;exact kia_one PySem.W.kitx_bool I.kIn True.intro ek (fun z=>nomatch z) h
 |int i=>obtain⟨t,rfl⟩:=rx;exact kia_one PySem.W.kitx_int I.kIn True.intro ek (fun z=>nomatch z) h
 |str y=>obtain⟨t,rfl⟩:=rx;exact kia_one PySem.W.kitx_str I.kIn True.intro ek (fun z=>nomatch z) h
 |list hs hn q=>
  cases rx
  obtain⟨its,rv,⟨o,n,h1,h2,_⟩,_⟩:=I.list (SqL.of hs)
  exact kia_one PySem.W.kitx_list I.kIn ⟨o,h1,h2⟩ ek (fun z=>nomatch z) h
 |tuple hs q=>
  cases rx
  obtain⟨its,rv,⟨o,h1,h2,_⟩,_⟩:=I.tuple hs
  exact kia_one PySem.W.kitx_tuple I.kIn ⟨o,h1,h2⟩ ek (fun z=>nomatch z) h
theorem Ol(K:PySem.W.Frag)(d:PyData):kitOne K (.type (tyD d)) (.type "int")=some (isT "int" d):=by cases d<;>rfl
theorem Ng(K:PySem.W.Frag)(d:PyData):kitOne K (.type (tyD d)) (.type "bool")=some (isT "bool" d):=by cases d<;>rfl
theorem kit_tuple(K:PySem.W.Frag)(d:PyData):kitOne K (.type (tyD d)) (.type "tuple")=some (isT "tuple" d):=by cases d<;>rfl
theorem FW(kt:∀d,kitOne X.K (.type (tyD d)) (.type T)=some (isT T d)):jc X (.builtin "isinstance") (fun xs H Q=>∃U d u,xs=[u,.ty T]/\Rp X.K U H d u/\Q (.bl (isT T d)) H):=by
 intro pins s σ H xs us Q I r h
 obtain⟨U,d,u,rfl,rd,q⟩:=h
 obtain⟨v,w',rfl,r1,r2⟩:=vals2 r
 cases r2
 exact Kf I rd r1 (kt d) fun tk=>⟨.bl (isT T d),H,I.tok _,rfl,q⟩
noncomputable def GC(T:String)(te:DTE):DTE:=fun ρ U Q=>te ρ U fun x ad=>match x with
 |.v d=>Q (.v (.bool (isT T d))) ad
 |_=>False
theorem u6{y:Str}{py:Pos}(kt:∀d,kitOne X.K (.type (tyD d)) (.type T)=some (isT T d))(hg:Gl X "isinstance")(hm:X.mg "isinstance"=none)(hgy:Gl X y)(hmy:X.mg y=none)(hvy:bootBuiltins y=some (.type T))(ha:DE X e te)
  (hny:y ≠ "__name__":=by decide) (hdy:(y==("__debug__":Str))=false:=by decide)
  (he:starEach [e,.Name y py] X.env=(false,eval e X.env)::starEach [.Name y py] X.env:=by rfl) (he2:starEach [.Name y py] X.env=[(false,eval (.Name y py) X.env)]:=by rfl) (hpl:(backTo pos (starEach [.Name y py] X.env)).any (·.1)=false:=by rfl):DE X (.Call (.Name "isinstance" p) [e,.Name y py] [] pos) (GC T te):=by
 obtain⟨t1,p1,l1⟩:=ha
 refine⟨_,tE (FW kt) hg hm PyProof.Rows.Boot.«isinstance» (eY p1 (eY (Jl (v:=.ty T) hgy hmy hvy rfl hny hdy) pB he2) he) ⋯ ⋯ he hpl,fun σ H ρ U Qd Q S h k=>?_⟩
 refine l1 σ H ρ U _ _ S h fun x ux ad H1 e1 S1 rx h1=>?_
 split at h1
 ·exact⟨ad,_,ux,rfl,rx,k (.v _) _ ad H1 e1 S1 (Rp.bool _) h1⟩
 ·exact h1.elim
end
section
variable {X:Cx}{a b e:Expr}{es:List Expr}{ta tb te:DTE}{t:DTA}{p pos:Pos}{st:Stmt}{rest sts:List Stmt}{td ud:DTS}{tc:DTT}
noncomputable def bG:DTS:=fun Dd ρ U=>Dd.nx ρ U
noncomputable def aL(t u:DTS):DTS:=fun Dd ρ U=>t {Dd with nx:=u Dd} ρ U
noncomputable def bo(te:DTE):DTS:=fun Dd ρ U=>te ρ U Dd.rt
noncomputable def j5(te:DTE):DTS:=fun Dd ρ U=>te ρ U fun _ ad=>Dd.nx ρ ad
noncomputable def cA(c:DTT)(t u:DTS):DTS:=fun Dd ρ U=>c ρ U fun b ad=>if b=true then t Dd ρ ad else u Dd ρ ad
theorem aW:DSs X [] bG:=⟨_,Oa,fun σ H ρ U Dd De S h k1 k2 k3 k4=>k1 σ ρ U H .refl S h⟩
theorem au(h:DS X st td):DSs X [st] td:=let ⟨t,p,l⟩:=h;⟨t,PR p,l⟩
theorem lift_seq{K:PySem.W.Frag}{t u:TS}(l1:BZ K t td)(l2:BZ K u ud):BZ K (T5 t u) (aL td ud):=by
 intro σ H ρ U Dd De S h k1 k2 k3 k4
 refine l1 σ H ρ U _ _ S h (fun bn ce Z H' e' S' h'=>?_) k2 k3 k4
 exact l2 bn H' ce Z Dd De S' h' (fun a b c d e2=>k1 a b c d (e'.trans e2)) (fun a b c d e2=>k2 a b c d (e'.trans e2)) (fun a b c d e2=>k3 a b c d (e'.trans e2)) (fun a b c d e2=>k4 a b c d (e'.trans e2))
theorem ao(h1:DS X st td)(h2:DSs X rest ud):DSs X (st::rest) (aL td ud):=by
 obtain⟨t1,p1,l1⟩:=h1
 obtain⟨t2,p2,l2⟩:=h2
 exact⟨_,yN p1 p2,lift_seq l1 l2⟩
theorem aG(he:DE X e te):DS X (.Return (some e) pos) (bo te):=by
 obtain⟨t1,p1,l1⟩:=he
 exact⟨_,SH p1,fun σ H ρ U Dd De S h k1 k2 k3 k4=>l1 σ H ρ U _ _ S h fun d u Z H' e' S' r q=>k2 d u Z H' e' S'.mu r q⟩
theorem eu(he:DE X e te)(hs:swapsWith e none pos.line X.env=pure false:=by rfl):DS X (.Expr e pos) (j5 te):=by
 obtain⟨t1,p1,l1⟩:=he
 exact⟨_,Oe p1 hs,fun σ H ρ U Dd De S h k1 k2 k3 k4=>l1 σ H ρ U _ _ S h fun d u Z H' e' S' r q=>k1 σ ρ Z H' e' S' q⟩
theorem bF{c:Expr}{x y:List Stmt}(hc:DT X c tc)(ha:DSs X x td)(hb:DSs X y ud):DS X (.If c x y pos) (cA tc td ud):=by
 obtain⟨t0,p0,l0⟩:=hc
 obtain⟨t1,p1,l1⟩:=ha
 obtain⟨t2,p2,l2⟩:=hb
 refine⟨_,PZ p0 p1 p2,fun σ H ρ U Dd De S h k1 k2 k3 k4=>?_⟩
 refine l0 σ H ρ U _ _ S h fun c ad H1 e1 S1 h1=>?_
 cases c with
 |true=>exact HA (l1 σ H1 ρ ad Dd De S1 (by simpa using h1) (fun a b c d e2=>k1 a b c d (e1.trans e2)) (fun a b c d e2=>k2 a b c d (e1.trans e2)) (fun a b c d e2=>k3 a b c d (e1.trans e2)) (fun a b c d e2=>k4 a b c d (e1.trans e2)))
 |false=>exact GW (l2 σ H1 ρ ad Dd De S1 (by simpa using h1) (fun a b c d e2=>k1 a b c d (e1.trans e2)) (fun a b c d e2=>k2 a b c d (e1.trans e2)) (fun a b c d e2=>k3 a b c d (e1.trans e2)) (fun a b c d e2=>k4 a b c d (e1.trans e2)))
noncomputable abbrev DTG:=D->Rho->Mu->(Rho->Mu->Prop)->Prop
noncomputable abbrev AD:=List PyData->Rho->Mu->(Rho->Mu->Prop)->Prop
noncomputable def Nk(K:PySem.W.Frag)(g:TG)(gd:DTG):Prop:=∀(σ:St) (H:Hp) (ρ:Rho) (U:Mu) (d:D) (u:V) (Qd:Rho->Mu->Prop) (Q:St->Hp->Prop),St0 K H ρ U σ->RpD K U H d u->gd d ρ U Qd ->
 (∀bn ce Z H',Ext K U H Z H'->St0 K H' ce Z bn->Qd ce Z->Q bn H')->g u σ H Q
noncomputable def QW(K:PySem.W.Frag)(g:TGs)(gd:AD):Prop:=∀(σ:St) (H:Hp) (ρ:Rho) (U:Mu) (ds:List PyData) (us:List V) (Qd:Rho->Mu->Prop) (Q:St->Hp->Prop),St0 K H ρ U σ->RpL K U H ds us->gd ds ρ U Qd ->
 (∀bn ce Z H',Ext K U H Z H'->St0 K H' ce Z bn->Qd ce Z->Q bn H')->g us σ H Q
noncomputable def DG(X:Cx)(tg:Expr)(gd:DTG):Prop:=∃g,PG X tg g/\Nk X.K g gd
noncomputable def DGs(X:Cx)(tg:List Expr)(gd:AD):Prop:=∃g,PGs X tg g/\QW X.K g gd
theorem kh.set{K:PySem.W.Frag}{U:Mu}{H:Hp}{ρ:Rho}{σ:St}{i:Nat}{d:D}{u:V}(r:kh K U H ρ σ)(h:RpD K U H d u):kh K U H (ρ.set i (some d)) (σ.set i (some u)):=by
 refine⟨by rw[List.length_set,List.length_set];exact r.1,fun j d' e=>?_⟩
 by_cases hj:i=j
 ·subst hj
  have hl:i<ρ.length:=by
   have:=(List.getElem?_eq_some_iff.mp e).1
   rw[List.length_set] at this
   exact this
  rw[List.getElem?_set_self hl] at e
  cases e
  exact⟨u,List.getElem?_set_self (by rw[<- r.1];exact hl),h⟩
 ·rw[List.getElem?_set_ne hj] at e
  obtain⟨w,e1,e2⟩:=r.2 j d' e
  exact⟨w,by rw[List.getElem?_set_ne hj];exact e1,e2⟩
noncomputable def aq(i:Nat):DTG:=fun d ρ U Q=>Q (ρ.set i (some d)) U
theorem zk{K:PySem.W.Frag}{i:Nat}:Nk K (Mc i) (aq i):=fun σ H ρ U d u Qd Q S r h k=>k _ _ U H .refl ⟨S.mu,S.rho.set r⟩ h
theorem jk{i:Nat}{x:Str}(hN:X.N.Nodup)(hi:X.N[i]? = some x)(hx:Loc X.env.scope x)(hf:X.fn x=true\/X.env.scope.names.lookup x=some .local:=by first|exact .inl rfl|exact .inr rfl|assumption):DG X (.Name x pos) (aq i):=⟨_,OT hN hi hx hf,zk⟩
noncomputable def cF:AD:=fun ds ρ U Q=>match ds with
 |[]=>Q ρ U
 |_=>False
noncomputable def aC(g:DTG)(gs:AD):AD:=fun ds ρ U Q=>match ds with
 |d::r=>g (.v d) ρ U fun re ad=>gs r re ad Q
 |_=>False
theorem bE:DGs X [] cF:=⟨_,Ov,fun σ H ρ U ds us Qd Q S r h k=>by
 cases r with
 |nil=>exact⟨rfl,k σ ρ U H .refl S h⟩
 |cons _ _=>exact h.elim⟩
theorem av{g:DTG}{gs:AD}(h1:DG X e g)(h2:DGs X es gs)(hs:(assignEach (e::es) X.env).map (·.2)=assign e X.env::(assignEach es X.env).map (·.2):=by rfl):DGs X (e::es) (aC g gs):=by
 obtain⟨t1,p1,l1⟩:=h1
 obtain⟨t2,p2,l2⟩:=h2
 refine⟨_,LF p1 p2 hs,fun σ H ρ U ds us Qd Q S r h k=>?_⟩
 cases r with
 |nil=>exact h.elim
 |@cons d u ds us r1 r2=>
  refine⟨u,us,rfl,l1 σ H ρ U (.v d) u _ _ S r1 h fun bn ce Z H' e1 S' h1=>?_⟩
  exact l2 bn H' ce Z ds us _ _ S' (r2.ext S.mu e1) h1 fun a b c d e2=>k a b c d (e1.trans e2)
noncomputable def cC(n:Nat)(gs:AD):DTG:=fun d ρ U Q=>match d with
 |.v (.tuple xs)=>xs.length=n/\gs xs ρ U Q
 |_=>False
theorem bQ{k n:Nat}{gs:AD}(hc:X.calm=X.calm)(h:DGs X es gs)
  (hn:(assignEach es X.env).length=n:=by rfl) (hst:(assignEach es X.env).findIdx? (·.1)=none:=by rfl):DG X (.Tuple es k pos) (cC n gs):=by
 obtain⟨t1,p1,l1⟩:=h
 refine⟨_,Rr hc p1 hn hst,fun σ H ρ U d u Qd Q S r h k=>?_⟩
 unfold cC at h
 split at h
 ·cases r with
  |@tuple a us _ ha ra=>exact⟨a,us,rfl,ha,by rw[<- ra.length];exact h.1,l1 σ H ρ U _ us _ _ S ra h.2 k⟩
 ·exact h.elim
noncomputable def IQ(to ti:DTE):DTG:=fun d ρ U Q=>to ρ U fun o ad=>ti ρ ad fun i am=>match o,i,d with
 |.m l,.v (.int k),.v x=>(match am l with
  |some xs=>(match ixN xs.length k with
   |some j=>Q ρ (aR am l (xs.set j x))
   |none=>False)
  |none=>False)
 |_,_,_=>False
theorem NA{o i:Expr}{to ti:DTE}(ho:DE X o to)(hi:DE X i ti)
  (ha:∀v,assign (.Subscript o i pos) X.env v=(do
   let ov <- holding [v] (eval o X.env)
   let iv <- holding [v,ov] (eval i X.env)
   standAt pos
   holding [v,ov,iv] (setItem ov iv v)
   release [v,ov,iv] []):=by intro _;rfl):DG X (.Subscript o i pos) (IQ to ti):=by
 obtain⟨t1,p1,l1⟩:=ho
 obtain⟨t2,p2,l2⟩:=hi
 refine⟨_,Sf p1 p2 set_list ha,fun σ H ρ U d u Qd Q S r h k=>?_⟩
 refine l1 σ H ρ U _ _ S h fun x ux ad H1 e1 S1 rx h1=>?_
 refine l2 σ H1 ρ ad _ _ S1 h1 fun y uy am H2 e2 S2 ry h2=>?_
 have r2:=(r.ext S.mu e1).ext S1.mu e2
 have rx2:=rx.ext S1.mu e2
 split at h2
 ·rename_i l kk xv
  obtain⟨rfl,ds,hm⟩:=rx2
  cases ry
  rw[hm] at h2
  obtain⟨us,hl,rl⟩:=S2.mu l ds hm
  simp only at h2
  cases q:ixN ds.length kk with
  |none=>rw[q] at h2;exact h2.elim
  |some j=>
   rw[q] at h2
   refine⟨l,us,kk,j,rfl,rfl,hl,by rw[<- rl.length];exact q,?_⟩
   have ex:Ext X.K am H2 (aR am l (ds.set j xv)) (upd H2 l (.lst (us.set j u))):=kd hm
   exact k σ ρ _ _ (e1.trans (e2.trans ex)) ⟨S2.mu.set hm (rl.set r2 j),S2.rho.ext S2.mu ex⟩ h2
 ·exact h2.elim
noncomputable def bc(te:DTE)(g:DTG):DTS:=fun Dd ρ U=>te ρ U fun d ad=>g d ρ ad Dd.nx
theorem Gh{K:PySem.W.Frag}{t:TE}{g:TG}{gd:DTG}(l1:uj K t te)(l2:Nk K g gd):BZ K (Sg t g) (bc te gd):=by
 intro σ H ρ U Dd De S h k1 k2 k3 k4
 refine l1 σ H ρ U _ _ S h fun d u ad H1 e1 S1 r h1=>?_
 exact l2 σ H1 ρ ad d u _ _ S1 r h1 fun a b c d e2=>k1 a b c d (e1.trans e2)
theorem dF{tg:Expr}{g:DTG}(he:DE X e te)(hg:DG X tg g)(hs:swapsWithSole [tg] e pos.line X.env=pure false:=by rfl)(hw:swappedStores [tg] e X.env=pure none:=by rfl)
  (h1:(assignEach [tg] X.env).map (·.2)=[assign tg X.env]:=by rfl):DS X (.Assign [tg] e pos) (bc te g):=by
 obtain⟨t1,p1,l1⟩:=he
 obtain⟨t2,p2,l2⟩:=hg
 exact⟨_,Ru p1 p2 hs hw h1,Gh l1 l2⟩
theorem D2{i:Nat}{x:Str}{pos':Pos}(hN:X.N.Nodup)(hi:X.N[i]? = some x)(hx:Loc X.env.scope x)(he:DE X e te)(hs:swapsWith e (some (.Name x pos')) pos.line X.env=pure false:=by rfl)(hf:X.fn x=true\/X.env.scope.names.lookup x=some .local:=by first|exact .inl rfl|exact .inr rfl|assumption) :
  DS X (.Assign [.Name x pos'] e pos) (bc te (aq i)):=by
 obtain⟨t1,p1,l1⟩:=he
 exact⟨_,Rk hN hi hx p1 hs hf,Gh l1 zk⟩
noncomputable def wV(i j:Nat)(t:DTA):DTS:=fun Dd ρ U=>t ρ U fun ds ad=>match ds with
 |[v,w]=>Dd.nx ((ρ.set i (some v)).set j (some w)) ad
 |_=>False
theorem kF{i j:Nat}{x y:Str}{a b:Expr}{t:DTA}{px py pt:Pos}{kt k2 pt2}(hc:X.calm=true)(hN:X.N.Nodup)(hi:X.N[i]? = some x)(hj:X.N[j]? = some y)(hij:i≠j)
  (hx:X.env.scope.names.lookup x=some .local) (hy:X.env.scope.names.lookup y=some .local) (ha:DA X [a,b] t)
  (hw:swappedStores [.Tuple [.Name x px,.Name y py] kt pt] (.Tuple [a,b] k2 pt2) X.env=pure (some [x,y]))
  (hs:swapsWithSole [.Tuple [.Name x px,.Name y py] kt pt] (.Tuple [a,b] k2 pt2) pos.line X.env=pure false:=by rfl) :
  DS X (.Assign [.Tuple [.Name x px,.Name y py] kt pt] (.Tuple [a,b] k2 pt2) pos) (wV i j t):=by
 obtain⟨t1,p1,l1⟩:=ha
 refine⟨_,QC hc hN hi hj hij hx hy p1 hw hs,fun σ H ρ U Dd De S h k1 k2 k3 k4=>?_⟩
 refine l1 σ H ρ U _ _ S h fun ds us ad H1 e1 S1 rs len h1=>?_
 split at h1
 ·cases rs with
  |cons r1 r2=>
   cases r2 with
   |cons r2 r3=>
    cases r3
    exact⟨_,_,rfl,k1 _ _ ad H1 e1 ⟨S1.mu,(S1.rho.set r1).set r2⟩ h1⟩
 ·exact h1.elim
noncomputable def vD(c:DTT)(tb:DTS):DTS:=fun Dd ρ U=>∃W:Nat->Rho->Mu->Prop,(∃m,W m ρ U)/\∀m ρ U,W m ρ U ->
 c ρ U fun b ad=>if b=true then tb {Dd with nx:=fun ce Z=>∃m',m'<m/\W m' ce Z,ct:=fun ce Z=>∃m',m'<m/\W m' ce Z,bk:=Dd.nx} ρ ad else Dd.nx ρ ad
theorem uB{c:Expr}{body:List Stmt}(hp:PassesOwn (model X.prog X.w) X.A X.env X.xe)(hc:DT X c tc)(hb:DSs X body td):DS X (.While c body [] pos) (vD tc td):=by
 obtain⟨t0,p0,l0⟩:=hc
 obtain⟨t1,p1,l1⟩:=hb
 refine⟨_,Mq hp p0 p1,fun σ H ρ U Dd De S h k1 k2 k3 k4=>?_⟩
 obtain⟨W,⟨m,w0⟩,turn⟩:=h
 refine⟨fun m bn H'=>∃ce Z,Ext X.K U H Z H'/\St0 X.K H' ce Z bn/\W m ce Z,⟨m,ρ,U,.refl,S,w0⟩,?_⟩
 rintro m pd H1 ⟨re,ad,e1,S1,w1⟩
 refine l0 pd H1 re ad _ _ S1 (turn m re ad w1) fun b am H2 e2 S2 h2=>?_
 cases b with
 |true=>
  refine HA ⟨fun bn H'=>∃m',m'<m/\∃ce Z,Ext X.K U H Z H'/\St0 X.K H' ce Z bn/\W m' ce Z,fun bn H' ⟨m',hm,q⟩=>⟨m',hm,q⟩,?_⟩
  have nxt:∀bn ce Z H',Ext X.K am H2 Z H'->St0 X.K H' ce Z bn->(∃m',m'<m/\W m' ce Z)->∃m',m'<m/\∃ce Z,Ext X.K U H Z H'/\St0 X.K H' ce Z bn/\W m' ce Z:=
   fun bn ce Z H' e3 S3 ⟨m',hm,q⟩=>⟨m',hm,ce,Z,e1.trans (e2.trans e3),S3,q⟩
  rw[if_pos rfl] at h2
  exact l1 pd H2 re am _ _ S2 h2 nxt (fun a b c d e3=>k2 a b c d (e1.trans (e2.trans e3))) (fun a b c d e3=>k1 a b c d (e1.trans (e2.trans e3))) nxt
 |false=>exact GW (k1 pd re am H2 (e1.trans e2) S2 (by simpa using h2))
noncomputable abbrev DTI:=Rho->Mu->(List PyData->Mu->Prop)->Prop
noncomputable def Og(K:PySem.W.Frag)(J:It)(xs:List PyData)(ad:Mu)(H1:Hp):Prop:=∀am H2,Ext K ad H1 am H2->bC K am H2->∀i,(i<xs.length->J.go i H2/\∀x H',J.yld i H2 x H'->∃d,xs[i]? = some d/\D0 H2 H'/\Rp K am H' d x)/\(i=xs.length->J.stop i H2)
noncomputable def Tq(K:PySem.W.Frag)(wi:TI)(src:DTI):Prop:=∀(σ:St) (H:Hp) (ρ:Rho) (U:Mu) (Qd:List PyData->Mu->Prop) (R:It->Hp->Prop),St0 K H ρ U σ->src ρ U Qd ->
 (∀xs ad H1 J,Ext K U H ad H1->St0 K H1 ρ ad σ->Og K J xs ad H1->Qd xs ad->R J H1)->wi σ H R
noncomputable def DI(X:Cx)(tg iter:Expr)(src:DTI):Prop:=∃wi,PI X tg iter wi/\Tq X.K wi src
variable {tg:Expr}
noncomputable def fS(te:DTE):DTI:=fun ρ U Q=>te ρ U fun d ad=>match d with
 |.v (.list xs)=>Q xs ad
 |_=>False
noncomputable def n5(te:DTE):DTI:=fun ρ U Q=>te ρ U fun d ad=>match d with
 |.v (.tuple xs)=>Q xs ad
 |_=>False
theorem gu(h:DE X e te):DI X tg e (fS te):=by
 obtain⟨t1,p1,l1⟩:=h
 refine⟨_,Pp p1,fun σ H ρ U Qd R S h k=>?_⟩
 refine l1 σ H ρ U _ _ S h fun d u ad H1 e1 S1 r h1=>?_
 split at h1
 ·rename_i xs
  cases r with
  |@list a us _ ha hn ra=>
   refine⟨a,rfl,⟨us,SqL.of ha⟩,k xs ad H1 _ e1 S1 (fun am H2 e2 ok2 i=>⟨fun hi=>?_,fun hi=>?_⟩) h1⟩
   ·have ha2:=e2.keep _ _ ha hn trivial
    have hiu:i<us.length:=by rw[<- ra.length];exact hi
    refine⟨⟨us,us[i],SqL.of ha2,by simp[hiu]⟩,fun x H' hq0=>?_⟩
    obtain⟨eH,hx⟩:=hq0
    subst eH
    obtain⟨u',h1',h2'⟩:=ra.get (i:=i) (d:=xs[i]) (by simp[hi])
    have:=hx us (SqL.of ha2)
    rw[h1'] at this
    cases this
    exact⟨xs[i],by simp[hi],D0.refl _,h2'.ext S1.mu e2⟩
   ·exact⟨us,SqL.of (e2.keep _ _ ha hn trivial),by rw[<- ra.length];omega⟩
 ·exact h1.elim
theorem kX(h:DE X e te):DI X tg e (n5 te):=by
 obtain⟨t1,p1,l1⟩:=h
 refine⟨_,RV p1,fun σ H ρ U Qd R S h k=>?_⟩
 refine l1 σ H ρ U _ _ S h fun d u ad H1 e1 S1 r h1=>?_
 split at h1
 ·rename_i xs
  cases r with
  |@tuple a us _ ha ra=>
   refine⟨a,rfl,⟨us,ha⟩,k xs ad H1 _ e1 S1 (fun am H2 e2 ok2 i=>⟨fun hi=>?_,fun hi=>?_⟩) h1⟩
   ·have ha2:=mJ S1.mu e2 ha
    have hiu:i<us.length:=by rw[<- ra.length];exact hi
    refine⟨⟨us,us[i],ha2,by simp[hiu]⟩,fun x H' hq0=>?_⟩
    obtain⟨eH,hx⟩:=hq0
    subst eH
    obtain⟨u',h1',h2'⟩:=ra.get (i:=i) (d:=xs[i]) (by simp[hi])
    have:=hx us ha2
    rw[h1'] at this
    cases this
    exact⟨xs[i],by simp[hi],D0.refl _,h2'.ext S1.mu e2⟩
   ·exact⟨us,mJ S1.mu e2 ha,by rw[<- ra.length];omega⟩
 ·exact h1.elim
noncomputable def mL(lo:Int)(n:Nat):List PyData:=(List.range n).map fun (i:Nat)=>PyData.int (lo+(i:Int))
theorem LN{K:PySem.W.Frag}{lo:Int}{n:Nat}{U:Mu}{H:Hp}:Og K (Itr lo n) (mL lo n) U H:=fun am H2 e2 ok2 i=>by
 have hl:(mL lo n).length=n:=by unfold mL;simp
 refine⟨fun hi=>?_,fun hi=>?_⟩
 ·rw[hl] at hi
  refine⟨hi,fun x H' hq0=>?_⟩
  obtain⟨eH,hx⟩:=hq0
  subst eH hx
  exact⟨.int (lo+i),by unfold mL;simp[hi],D0.refl _,.int _⟩
 ·show n<=i
  omega
noncomputable def k7(t:DTA):DTI:=fun ρ U Q=>t ρ U fun ds ad=>match ds with
 |[.v (.int j)]=>(-(2 ^ 62)<=j/\j<2 ^ 62)/\Q (mL 0 j.toNat) ad
 |_=>False
noncomputable def zY(t:DTA):DTI:=fun ρ U Q=>t ρ U fun ds ad=>match ds with
 |[.v (.int i),.v (.int j)]=>(-(2 ^ 62)<=i/\i<2 ^ 62/\-(2 ^ 62)<=j/\j<2 ^ 62)/\Q (mL i (j-i).toNat) ad
 |_=>False
theorem kB{a:Expr}{t:DTA}{p pos:Pos}(hg:Gl X "range")(hm:X.mg "range"=none)(ha:DA X [a] t)(hs:starEach [a] X.env=[(false,eval a X.env)]:=by rfl)(hc:X.calm=true:=by rfl):DI X tg (.Call (.Name "range" p) [a] [] pos) (k7 t):=by
 obtain⟨t1,p1,l1⟩:=ha
 refine⟨_,Ks hc hg hm p1 hs,fun σ H ρ U Qd R S h k=>?_⟩
 refine l1 σ H ρ U _ _ S h fun ds us ad H1 e1 S1 rs len h1=>?_
 split at h1
 ·rename_i j
  cases rs with
  |cons r1 r2=>cases r2;cases r1;exact⟨j,rfl,h1.1.1,h1.1.2,k _ ad H1 _ e1 S1 LN h1.2⟩
 ·exact h1.elim
theorem CY{a b:Expr}{t:DTA}{p pos:Pos}(hg:Gl X "range")(hm:X.mg "range"=none)(ha:DA X [a,b] t)(hs:starEach [a,b] X.env=[(false,eval a X.env),(false,eval b X.env)]:=by rfl)(hs2:starEach [b] X.env=[(false,eval b X.env)]:=by rfl)(hc:X.calm=true:=by rfl):DI X tg (.Call (.Name "range" p) [a,b] [] pos) (zY t):=by
 obtain⟨t1,p1,l1⟩:=ha
 refine⟨_,Ky hc hg hm p1 hs hs2,fun σ H ρ U Qd R S h k=>?_⟩
 refine l1 σ H ρ U _ _ S h fun ds us ad H1 e1 S1 rs len h1=>?_
 split at h1
 ·rename_i i j
  cases rs with
  |cons r1 r2=>
   cases r2 with
   |cons r2 r3=>cases r3;cases r1;cases r2;exact⟨i,j,rfl,h1.1,k _ ad H1 _ e1 S1 LN h1.2⟩
 ·exact h1.elim
noncomputable def rH(src:DTI)(g:DTG)(tb:DTS):DTS:=fun Dd ρ U=>src ρ U fun xs ad=>∃Pv:Nat->Rho->Mu->Prop,Pv 0 ρ ad /\
 (∀i x ce Z,xs[i]? = some x->Pv i ce Z->g (.v x) ce Z fun dL am=>tb {Dd with nx:=Pv (i+1),ct:=Pv (i+1),bk:=Dd.nx} dL am)/\(∀ce Z,Pv xs.length ce Z->Dd.nx ce Z)
theorem hJ{iter:Expr}{body:List Stmt}{src:DTI}{g:DTG}(hp:PassesOwn (model X.prog X.w) X.A X.env X.xe)(hc:X.calm=true)(hi:DI X tg iter src)(hg:DG X tg g)(hb:DSs X body td)
  (hs:∀x,foldedSetIterable iter X.env x=pure x:=by intro _;rfl):DS X (.For tg iter body [] pos) (rH src g td):=by
 obtain⟨t0,p0,l0⟩:=hi
 obtain⟨t1,p1,l1⟩:=hg
 obtain⟨t2,p2,l2⟩:=hb
 refine⟨_,Q7 hp hc p0 p1 p2 hs,fun σ H ρ U Dd De S h k1 k2 k3 k4=>?_⟩
 refine l0 σ H ρ U _ _ S h fun xs ad H1 J e1 S1 it h1=>?_
 obtain⟨Pv,pv0,turn,fin⟩:=h1
 refine⟨fun i m bn H'=>m=xs.length-i/\i<=xs.length/\∃ce Z,Ext X.K ad H1 Z H'/\St0 X.K H' ce Z bn/\Pv i ce Z,⟨xs.length,by simp,zero_le _,ρ,ad,.refl,S1,pv0⟩,?_⟩
 rintro i m bn H' ⟨rfl,hi,ce,Z,e2,S2,pv⟩
 obtain⟨go,stop⟩:=it Z H' e2 S2.mu i
 by_cases hlt:i<xs.length
 ·obtain⟨g1,y1⟩:=go hlt
  refine .inr ⟨g1,fun ul H2=>∃dL am,Ext X.K ad H1 am H2/\St0 X.K H2 dL am ul/\Pv (i+1) dL am,fun ul H2 q=>⟨xs.length-(i+1),∅,rfl,hlt,q⟩,fun x H2 yl=>?_⟩
  obtain⟨d,hd,sm,rd⟩:=y1 x H2 yl
  have e3:Ext X.K Z H' Z H2:=.of_same sm
  have S3:St0 X.K H2 ce Z bn:=⟨S2.mu.N7 e3 sm,S2.rho.ext S2.mu e3⟩
  refine l1 bn H2 ce Z (.v d) x _ _ S3 rd (turn i d ce Z hd pv) fun D' Cl ge H4 e4 S4 h4=>?_
  have nxt:∀a b c dd,Ext X.K ge H4 c dd->St0 X.K dd b c a->Pv (i+1) b c->∃dL am,Ext X.K ad H1 am dd/\St0 X.K dd dL am a/\Pv (i+1) dL am:=fun a b c dd e5 S5 q=>⟨b,c,e2.trans (e3.trans (e4.trans e5)),S5,q⟩
  have ee:=e1.trans (e2.trans (e3.trans e4))
  exact l2 D' H4 Cl ge _ _ S4 h4 nxt (fun a b c d e5=>k2 a b c d (ee.trans e5)) (fun a b c d e5=>k1 a b c d (ee.trans e5)) nxt
 ·have ei:i=xs.length:=by omega
  subst ei
  exact .inl ⟨stop rfl,k1 bn ce Z H' (e1.trans e2) S2 (fin ce Z pv)⟩
end
noncomputable abbrev DSp:=List D->Mu->DK->Prop
noncomputable def spD(K:PySem.W.Frag)(dsp:DSp):Sp:=fun vs H Q _=>∃(ds:List D) (U:Mu) (Qd:DK),bC K U H/\jO K U H ds vs/\dsp ds U Qd /\
 (∀d u Z H',Ext K U H Z H'->bC K Z H'->RpD K Z H' d u->Qd d Z->Q u H')
noncomputable def aK(N:List Str)(ds:List D):Rho:=ds.map some++List.replicate (N.length-ds.length) none
theorem jO.get{K:PySem.W.Frag}{U:Mu}{H:Hp}{ds:List D}{us:List V}:∀{i:Nat} {d:D},jO K U H ds us->ds[i]? = some d->∃u,us[i]? = some u/\RpD K U H d u
 |_,_,.nil,h=>by simp at h
 |0,_,.cons r _,h=>by simp at h;subst h;exact⟨_,rfl,r⟩
 |i+1,d,.cons _ t,h=>by
  obtain⟨u,h1,h2⟩:=jO.get (i:=i) (d:=d) t (by simpa using h)
  exact⟨u,by simpa using h1,h2⟩
theorem vh{K:PySem.W.Frag}{U:Mu}{H:Hp}{N:List Str}{ds:List D}{vs:List V}(r:jO K U H ds vs):kh K U H (aK N ds) (start N vs):=by
 have hl:=r.length
 refine⟨by unfold aK start;simp[hl],fun i d e=>?_⟩
 unfold aK at e
 by_cases hi:i<ds.length
 ·rw[getElem?_append_left (by simpa using hi),getElem?_map] at e
  unfold start
  rw[getElem?_append_left (by simpa [hl] using hi),getElem?_map]
  cases q:ds[i]? with
  |none=>rw[q] at e;cases e
  |some d'=>
   rw[q] at e
   cases e
   obtain⟨u,h1,h2⟩:=r.get q
   exact⟨u,by rw[h1];rfl,h2⟩
 ·rw[getElem?_append_right (by simpa using hi),List.getElem?_replicate] at e
  split at e<;>cases e
section
variable {P:Program}{w:World}{K:PySem.W.Frag}{mg:Str->Option Value}{base:Heap}
theorem _root_.L2.Fun.okD{x qual:Str}{st:Stmt}{f:Addr}{fd:FuncData}{N ps:List Str}{k:Nat}{dsp:DSp}(F:Fun K x qual st f fd)(S:aE N ps (aw st))(len:∀ds U Q,dsp ds U Q->ds.length=ps.length)
  (hbody:∀(cdv:Value) (A:Around) (outer:List Env) (s:Shared) (H:Hp) (E:XK),fJ k (A.deeper (envOfC qual (aw st) s.heap.objs.size f cdv)) ->
   ∃td,DSs (kL CX0 P w K mg base N qual (aw st) f cdv A outer s H E).nox (dH st) td/\∀ds U Qd,dsp ds U Qd->td ‹Qd› (aK N ds) U):iY P w K mg base CX0 (k+1) f fd ps (spD K dsp):=by
 refine F.ok S (fun vs H Q E h=>?_) (fun cdv A outer s H vs Q E hr h=>?_)
 ·obtain⟨ds,U,Qd,_,r,h,_⟩:=h
  rw[<- r.length]
  exact len ds U Qd h
 ·obtain⟨ds,U,Qd,ok,r,h,fin⟩:=h
  obtain⟨td,⟨t,p,l⟩,rd⟩:=hbody cdv A outer s H E hr
  refine⟨t,p,?_⟩
  exact l (start N vs) H (aK N ds) U _ _ ⟨ok,vh r⟩ (rd ds U Qd h) (fun bn ce Z H' e' S' q=>fin (.v .none) .non Z H' e' S'.mu Rp.none q) (fun d u Z H' e' ok' r' q=>fin d u Z H' e' ok' r' q) (fun _ _ _ _ _ _ q=>q) (fun _ _ _ _ _ _ q=>q)
end
section
variable {X:Cx}{e:Expr}{es:List Expr}{t:DTA}{p pos:Pos}{x:Str}{k:Nat}{f:Addr}{fd:FuncData}{ps:List Str}{dsp:DSp}
noncomputable def ax(dsp:DSp)(t:DTA):DTE:=fun ρ U Q=>t ρ U fun ds ad=>dsp ds ad Q
theorem NY(F:iY X.prog X.w X.K X.mg X.base CX0 k f fd ps (spD X.K dsp))(hr:fJ k X.A)(hg:Gl X x)(hm:X.mg x=some (.ref f))(hk:keepIn X.K (.ref f)=true)(hb:Binds X.K fd ps [])
  (ha:DA X (e::es) t) (hdb:(x==("__debug__":Str))=false:=by decide) (he:starEach (e::es) X.env=(false,eval e X.env)::starEach es X.env:=by rfl) (hpl:(backTo pos (starEach es X.env)).any (·.1)=false:=by rfl) :
  DE X (.Call (.Name x p) (e::es) [] pos) (ax dsp t):=by
 obtain⟨t1,p1,l1⟩:=ha
 refine⟨_,Jd F hr hg hm hk hb .nil SY p1 hdb he hpl,fun σ H ρ U Qd Q S h kk=>?_⟩
 refine l1 σ H ρ U _ _ S h fun ds us ad H1 e1 S1 rs len h1=>?_
 refine⟨ds,ad,Qd,S1.mu,by rw[append_nil];exact rs,h1,fun d u Z H' e2 ok r q=>?_⟩
 exact kk d u Z H' (e1.trans e2) ⟨ok,S1.rho.ext S1.mu e2⟩ r q
end
section
variable {X:Cx}{o e:Expr}{to te:DTE}{apos cpos:Pos}
noncomputable def G7(to te:DTE):DTE:=fun ρ U Q=>to ρ U fun x ad=>match x with
 |.m l=>te ρ ad fun y am=>(match y,am l with
  |.v d,some xs=>xs.length<1000/\Q (.v .none) (aR am l (xs++[d]))
  |_,_=>False)
 |_=>False
theorem mn(ho:DE X o to)(ha:DE X e te)(hbase:attributeBase o "append" X.env (eval o X.env)=eval o X.env:=by rfl)
  (hfew:((backTo cpos (starEach [e] X.env)).all (fun x=>!x.1)&&(backToKw cpos (keywordEach [] X.env)).all (fun x=>x.1.isSome)
   && decide ([e].length+([]:List Keyword).length+(if ([]:List Keyword).isEmpty then 0 else 1)<30))=true:=by rfl)
  (hline:(apos.endLine==cpos.line)=true:=by rfl) (hs:starEach [e] X.env=(false,eval e X.env)::starEach [] X.env:=by rfl) (hplain:(backTo cpos (starEach [] X.env)).any (·.1)=false:=by rfl) :
  DE X (.Call (.Attribute o "append" apos) [e] [] cpos) (G7 to te):=by
 obtain⟨t1,p1,l1⟩:=ho
 obtain⟨t2,p2,l2⟩:=ha
 refine⟨_,Lk PySem.F.plainAttrs_list PySem.F.slot_list_append PySem.F.type_list_append uZ p1 (eY p2 pB hs) hbase hfew hline hs hplain,fun σ H ρ U Qd Q S h k=>?_⟩
 refine l1 σ H ρ U _ _ S h fun x ux ad H1 e1 S1 rx h1=>?_
 cases x with
 |m l=>
  obtain⟨rfl,ds,hm⟩:=id rx
  obtain⟨us,hl,rl⟩:=S1.mu l ds hm
  refine⟨.inl ⟨rfl,us,SqL.of hl⟩,?_⟩
  refine l2 σ H1 ρ ad _ _ S1 h1 fun y uy am H2 e2 S2 ry h2=>?_
  obtain⟨_,ds2,hm2⟩:=rx.ext S1.mu e2
  obtain⟨us2,hl2,rl2⟩:=S2.mu l ds2 hm2
  rw[hm2] at h2
  cases y with
  |v d=>
   have h3:ds2.length<1000/\Qd (.v .none) (aR am l (ds2++[d])):=h2
   refine⟨l,us2,uy,rfl,rfl,hl2,by rw[<- rl2.length];exact iu (Nat.le_of_lt h3.1),?_⟩
   have ex:Ext X.K am H2 (aR am l (ds2++[d])) (upd H2 l (.lst (us2++[uy]))):=kd hm2
   exact k (.v .none) .non _ _ (e1.trans (e2.trans ex)) ⟨S2.mu.set hm2 (rl2.append (.cons ry .nil)),S2.rho.ext S2.mu ex⟩ Rp.none h3.2
  |m _=>exact h2.elim
  |s _=>exact h2.elim
  |o _=>exact h2.elim
  |b _=>exact h2.elim
  |q _=>exact h2.elim
 |v d=>exact h1.elim
 |s ns=>exact h1.elim
 |o _=>exact h1.elim
 |b _=>exact h1.elim
 |q _=>exact h1.elim
noncomputable def UD(to te:DTE):DTE:=fun ρ U Q=>to ρ U fun x ad=>match x with
 |.m l=>te ρ ad fun y am=>(match y,am l with
  |.v (.list ys),some xs=>xs.length+ys.length<=1000/\Q (.v .none) (aR am l (xs++ys))
  |_,_=>False)
 |_=>False
end
section
variable {K:PySem.W.Frag}{U Z:Mu}{H:Hp}
mutual
theorem Rp.shrink{d:PyData}{u:V}(sub:∀a,Z a=none->U a=none):Rp K Z H d u->Rp K U H d u
 |.none=>.none
 |.bool b=>.bool b
 |.int i=>.int i
 |.str x=>.str x
 |.list h n r=>.list h (sub _ n) (RpL.shrink sub r)
 |.tuple h r=>.tuple h (RpL.shrink sub r)
theorem RpL.shrink{ds:List PyData}{us:List V}(sub:∀a,Z a=none->U a=none):RpL K Z H ds us->RpL K U H ds us
 |.nil=>.nil
 |.cons h r=>.cons (Rp.shrink sub h) (RpL.shrink sub r)
end
theorem iF.shrink{c:Box}{o:Obj}(sub:∀a,Z a=none->U a=none)(r:iF K Z H c o):iF K U H c o:=by
 cases c with
 |dict kvs=>
  obtain⟨h1,h2,es,ep,xs,h3,h4,h5,h6⟩:=r
  exact⟨h1,h2,es,ep,xs,h3,h4,h5,Paired.O5 h6 fun p q ⟨z1,z2,v,z3,z4⟩=>⟨z1,z2,v,Rp.shrink sub z3,z4⟩⟩
 |set ks=>exact r
end
theorem Qc{X:Cx}{e:Expr}{td:DTE}(h:∀(pins:List (Addr×Obj)) (s:Shared) (σ:St) (H:Hp) (ρ:Rho) (U:Mu) (Qd:DK) (Q:VK),Inv X pins σ H s->St0 X.K H ρ U σ->td ρ U Qd ->
  (∀d u Z H',Ext X.K U H Z H'->St0 X.K H' ρ Z σ->RpD X.K Z H' d u->Qd d Z->Q u H')->wpAny (model X.prog X.w) X.A (eval e X.env) (EP X pins σ Q) X.xe s):DE X e td:=
 ⟨fun σ H Q=>∃ρ U Qd,St0 X.K H ρ U σ/\td ρ U Qd/\(∀d u Z H',Ext X.K U H Z H'->St0 X.K H' ρ Z σ->RpD X.K Z H' d u->Qd d Z->Q u H'),
  fun pins s σ H Q I ⟨ρ,U,Qd,S,q,k⟩=>h pins s σ H ρ U Qd Q I S q k,fun σ H ρ U Qd Q S q k=>⟨ρ,U,Qd,S,q,k⟩⟩
noncomputable def aQ(X:Cx)(N':List Str)(scope:Scope)(cl:List (Str×Addr))(fp:List Addr)(bv:Shared)(db:Hp):Cx:=
 {X with N:=N',gl:=bv,H₀:=db,env:=compEnvC scope cl bv.heap.objs.size X.env,outer:=X.stack,stack:=X.stack,ex:=fp,fn:=fun _=>false,pn:=X.pn,xe:=fun _ _=>False}
noncomputable def Le:Rho->Rho->Prop
 |[],[]=>True
 |none::r,_::r'=>Le r r'
 |some d::r,some d'::r'=>d=d'/\Le r r'
 |_,_=>False
theorem Le.get:∀{ρ ce:Rho},Le ρ ce->ρ.length=ce.length/\∀(i:Nat) d,ρ[i]? = some (some d)->ce[i]? = some (some d)
 |[],[],_=>⟨rfl,fun _ _ h=>h⟩
 |none::r,x::r',h=>by
  obtain⟨h1,h2⟩:=Le.get (ρ:=r) (ce:=r') h
  refine⟨congrArg (· + 1) h1,fun i d e=>?_⟩
  cases i with
  |zero=>simp at e
  |succ j=>exact h2 j d (by simpa using e)
 |some d::r,some d'::r',h=>by
  obtain⟨rfl,h⟩:=h
  obtain⟨h1,h2⟩:=Le.get (ρ:=r) (ce:=r') h
  refine⟨congrArg (· + 1) h1,fun i d e=>?_⟩
  cases i with
  |zero=>simpa using e
  |succ j=>exact h2 j d (by simpa using e)
 |some d::r,none::r',h=>h.elim
 |[],_::_,h=>h.elim
 |none::_,[],h=>h.elim
 |some _::_,[],h=>h.elim
noncomputable def cN{α:Type}(cap:List (Option Nat))(ρ:List (Option α)):List (Option α):=cap.map fun o=>o.bind fun j=>(ρ[j]?).join
noncomputable def pA(cap:List (Option Nat))(src:DTI)(g:DTG)(c:DTT)(elt:DTE):DTE:=fun ρ U Q=>src ρ U fun xs ad=>xs.length<=1000/\∃f:PyData->Option PyData,
 (∀x∈xs,∀Z:Mu,(∀a ds,ad a=some ds->Z a=some ds)->g (.v x) (cN cap ρ) Z fun dL am=>Le (cN cap ρ) dL/\c dL am fun b bi=>
  if b=true then elt dL bi fun d ge=>ge=Z/\(match d with|.v y=>f x=some y|_=>False) else bi=Z/\f x=none)/\Q (.v (.list (xs.filterMap f))) ad
noncomputable def Ao(X:Cx)(ifs:List Expr)(c:DTT):Prop:=∀(pins:List (Addr×Obj)) (s:Shared) (σ:St) (H:Hp) (ρ:Rho) (U:Mu) (Qd:Bool->Mu->Prop) (Q:Bool->Hp->Prop),Inv X pins σ H s->St0 X.K H ρ U σ->c ρ U Qd ->
 (∀b Z H',Ext X.K U H Z H'->St0 X.K H' ρ Z σ->Qd b Z->Q b H') ->
 wpAny (model X.prog X.w) X.A (forIn ifs true fun c r=>if r=true then do let ok <- isTrue c X.env (eval c X.env);pure (ForInStep.yield ok) else pure (ForInStep.yield r)) (TP X pins σ Q) X.xe s
noncomputable def iI:DTT:=fun _ U Q=>Q true U
theorem cD{X:Cx}:Ao X [] iI:=fun pins s σ H ρ U Qd Q I S h k=>wpAny_tests_nil ⟨H,I,k true U H .refl S h⟩
theorem Fx{X:Cx}{c:Expr}{tc:DTT}(h:DT X c tc):Ao X [c] tc:=by
 obtain⟨t,p,l⟩:=h
 exact fun pins s σ H ρ U Qd Q I S h k=>wpAny_tests_one (p pins s σ H _ I (l σ H ρ U _ _ S h k))
theorem Un.after{fs ex:List Addr}{H H1:Hp}{h h1 h':Heap}(u:Un fs ex H H1 h h1)(k:∀b o,b<h.objs.size->h1.get? b=some o->h'.get? b=some o):Un fs ex H H1 h h':=
 ⟨fun b o e n hb hx=>k b o (Heap.lt_size e) (u.keep b o e n hb hx),fun b o e n hb hx=>let ⟨sl,q⟩:=u.slot b o e n hb hx;⟨sl,k b _ (Heap.lt_size e) q⟩,u.free,fun b o e hx=>let ⟨o',q⟩:=u.there b o e hx;⟨o',k b _ (Heap.lt_size e) q⟩,u.rR,u.qv,u.qr⟩
theorem zN{α:Type}{cap:List (Option Nat)}{ρ:List (Option α)}{i:Nat}{d:α}(h:(cN cap ρ)[i]? = some (some d)):∃j,cap[i]? = some (some j)/\ρ[j]? = some (some d):=by
 unfold cN at h
 rw[getElem?_map] at h
 cases q:cap[i]? with
 |none=>rw[q] at h;cases h
 |some o=>
  rw[q] at h
  cases o with
  |none=>cases h
  |some j=>
   refine⟨j,rfl,?_⟩
   simp only[map_some,bind_some,Option.some.injEq] at h
   cases z:ρ[j]? with
   |none=>rw[z] at h;cases h
   |some y=>rw[z] at h;simp only[join_some] at h;rw[h]
theorem LJ{α:Type}{cap:List (Option Nat)}{ρ:List (Option α)}{i j:Nat}{d:α}(h:cap[i]? = some (some j))(e:ρ[j]? = some (some d)):(cN cap ρ)[i]? = some (some d):=by
 unfold cN
 rw[getElem?_map,h]
 simp[e]
theorem kh.cap{K:PySem.W.Frag}{U:Mu}{H:Hp}{ρ:Rho}{σ:St}{cap:List (Option Nat)}(r:kh K U H ρ σ):kh K U H (cN cap ρ) (cN cap σ):=by
 refine⟨by unfold cN;simp,fun i d e=>?_⟩
 obtain⟨j,h1,h2⟩:=zN e
 obtain⟨u,h3,h4⟩:=r.2 j d h2
 exact⟨u,LJ h1 h3,h4⟩
theorem kh.le{K:PySem.W.Frag}{U:Mu}{H:Hp}{ρ ce:Rho}{σ:St}(r:kh K U H ce σ)(l:Le ρ ce):kh K U H ρ σ:=
 ⟨l.get.1.trans r.1,fun i d e=>r.2 i d (l.get.2 i d e)⟩
theorem H0{xs:List PyData}{f:PyData->Option PyData}{i:Nat}{d:PyData}(h:xs[i]? = some d):(xs.take (i+1)).filterMap f=(xs.take i).filterMap f++(f d).toList:=by
 obtain⟨hi,e⟩:=List.getElem?_eq_some_iff.mp h
 rw[List.take_succ_eq_append_getElem hi,List.filterMap_append,e]
 cases q:f d<;>simp[q]
theorem ze{α:Type}{x:α}{xs:List α}:atI (x::xs) 0=some x:=by unfold atI ixN;simp
theorem yz{α:Type}{x y:α}{xs:List α}:atI (x::y::xs) 1=some y:=by
 have h:=pW (xs:=x::y::xs) (j:=1) (v:=y) rfl
 exact h
theorem Bf{α:Type}{x y z:α}{xs:List α}:atI (x::y::z::xs) 2=some z:=by
 have h:=pW (xs:=x::y::z::xs) (j:=2) (v:=z) rfl
 exact h
theorem F8{α:Type}{x y z u:α}{xs:List α}:atI (x::y::z::u::xs) 3=some u:=by
 have h:=pW (xs:=x::y::z::u::xs) (j:=3) (v:=u) rfl
 exact h
noncomputable def lS:D->D->Mu->DK->Prop:=fun x y U Q=>match x,y with
 |.v (.int i),.v (.int j)=>Q (.v (.int (i+j))) U
 |.v (.tuple xs),.v (.tuple ys)=>xs.length+ys.length<=1000/\Q (.v (.tuple (xs++ys))) U
 |_,_=>BG x y U Q
theorem R7{K:PySem.W.Frag}:jJ K (fun x y H Q=>(rI0 fun i j=>.int (i+j)) x y H Q\/((Hf K) x y H Q\/Rq x y H Q)) lS:=by
 intro x y ux uy H U Qd Q ok rx ry h k
 unfold lS at h
 split at h
 ·exact .inl (IG (K:=K) (gd:=fun i j=>.int (i+j)) (fun _ _ _ _=>.int _) _ _ ux uy H U Qd Q ok rx ry h k)
 ·exact .inr (.inl (OJ _ _ ux uy H U Qd Q ok rx ry h k))
 ·exact .inr (.inr (L9 _ _ ux uy H U Qd Q ok rx ry h k))
theorem kb{X:Cx}{a b:Expr}{ta tb:DTE}{pos:Pos}(ha:DE X a ta)(hb:DE X b tb):DE X (.BinOp a .Add b pos) (dOp lS ta tb):=sP (Mf.or (L4.or MD)) R7 ha hb
section
variable {ρ:Rho}{U:Mu}{Q:DK}{QT:Bool->Mu->Prop}{QA:List D->Mu->Prop}{QG:Rho->Mu->Prop}{QI:List PyData->Mu->Prop}{QO:Option Int->Mu->Prop}{Dd:BF}{ta tb tc:DTE}{t u:DTT}{tA:DTA}{s1 s2:DTS}{i j:Int}{x y:PyData}{xs ys:List PyData}{d e:D}
noncomputable def j4:DTS:=fun _ _ _=>False
theorem gb{X:Cx}{st:Stmt}:DS X st j4:=⟨fun _ _ _=>False,fun _ _ _ _ _ _ h=>h.elim,fun _ _ _ _ _ _ _ h=>h.elim⟩
theorem Dq{o:Rho}:ah 0 (some d::o) U Q=Q d U:=propext Iff.rfl
theorem DB{a}{o:Rho}:ah 1 (a::some d::o) U Q=Q d U:=propext Iff.rfl
theorem Ee{a b}{o:Rho}:ah 2 (a::b::some d::o) U Q=Q d U:=propext Iff.rfl
theorem zz{a b c}{o:Rho}:ah 3 (a::b::c::some d::o) U Q=Q d U:=propext Iff.rfl
theorem Du{a b c f}{o:Rho}:ah 4 (a::b::c::f::some d::o) U Q=Q d U:=propext Iff.rfl
theorem Dg{a b c f g}{o:Rho}:ah 5 (a::b::c::f::g::some d::o) U Q=Q d U:=propext Iff.rfl
theorem CO{a b c f g h}{o:Rho}:ah 6 (a::b::c::f::g::h::some d::o) U Q=Q d U:=propext Iff.rfl
theorem DH{a b c f g h k}{o:Rho}:ah 7 (a::b::c::f::g::h::k::some d::o) U Q=Q d U:=propext Iff.rfl
theorem DN{a b c f g h k l}{o:Rho}:ah 8 (a::b::c::f::g::h::k::l::some d::o) U Q=Q d U:=propext Iff.rfl
theorem CD{a b c f g h k l m}{o:Rho}:ah 9 (a::b::c::f::g::h::k::l::m::some d::o) U Q=Q d U:=propext Iff.rfl
theorem xu{a b c f g h k l m n}{o:Rho}:ah 10 (a::b::c::f::g::h::k::l::m::n::some d::o) U Q=Q d U:=propext Iff.rfl
theorem q_c:dC x ρ U Q=Q (.v x) U:=propext Iff.rfl
theorem Q9{r}:dOp r ta tb ρ U Q=ta ρ U fun x ad=>tb ρ ad fun y am=>r x y am Q:=propext Iff.rfl
theorem q_B:dB ta ρ U QT=ta ρ U fun d ad=>match d with|.v (.bool k)=>QT k ad|_=>False:=propext Iff.rfl
theorem OE{C:Int->Int->Prop}{g:Int->Int->PyData}:rII C g (.v (.int i)) (.v (.int j)) U Q=(C i j/\Q (.v (g i j)) U):=propext Iff.rfl
theorem Jt{g:Int->Int->PyData}:A2 g (.v (.int i)) (.v (.int j)) U Q=Q (.v (g i j)) U:=propext Iff.rfl
theorem Jv:yg ta ρ U Q=ta ρ U fun x ad=>match x with|.v (.int i)=>Q (.v (.int (-i))) ad|_=>False:=propext Iff.rfl
theorem HM:vN t u ρ U QT=t ρ U fun c ad=>if c=true then u ρ ad QT else QT false ad:=propext Iff.rfl
theorem Qn:qu t u ρ U QT=t ρ U fun c ad=>if c=true then QT true ad else u ρ ad QT:=propext Iff.rfl
theorem Dr:gC t ρ U QT=t ρ U fun c ad=>QT (!c) ad:=propext Iff.rfl
theorem Lq:nY ta tb ρ U Q=ta ρ U fun x ad=>match x with|.v (.bool c)=>if c=true then tb ρ ad Q else Q (.v (.bool false)) ad|_=>False:=propext Iff.rfl
theorem Cg:L3 ta ρ U Q=ta ρ U fun x ad=>match x with|.v (.bool c)=>Q (.v (.bool (!c))) ad|_=>False:=propext Iff.rfl
theorem SJ:dIf t ta tb ρ U Q=t ρ U fun c ad=>if c=true then ta ρ ad Q else tb ρ ad Q:=propext Iff.rfl
theorem Bj:ar ρ U QA=QA [] U:=propext Iff.rfl
theorem vj:ag ta tA ρ U QA=ta ρ U fun x ad=>tA ρ ad fun xs am=>QA (x::xs) am:=propext Iff.rfl
theorem Fn:bH tA ρ U Q=tA ρ U fun ds ad=>match cT ds with|some xs=>Q (.v (.tuple xs)) ad|none=>False:=propext Iff.rfl
theorem Fe:pQ tA ρ U Q=tA ρ U fun ds ad=>match cT ds with|some xs=>Q (.v (.list xs)) ad|none=>False:=propext Iff.rfl
theorem Ek:uT tA ρ U Q=tA ρ U fun ds ad=>match cT ds with|some xs=>∀p,ad p=none->Q (.m p) (aR ad p xs)|none=>False:=propext Iff.rfl
theorem FX:cT []=some []:=by rw[cT]
theorem GD{r:List D}:cT (.v x::r)=(cT r).map (x::·):=by rw[cT]
theorem Qh{neg:Bool}:cU neg (.v x) (.v y) U Q=(SeqAt.shaped x=true/\SeqAt.shaped y=true/\Q (.v (.bool (neg ^^ PyData.eqv x y))) U):=propext Iff.rfl
theorem EW{neg:Bool}:cU neg (.v (.int i)) (.v (.int j)) U Q=Q (.v (.bool (neg ^^ decide (i=j)))) U:=by
 have e:PyData.eqv (.int i) (.int j)=decide (i=j):=by simp[PyData.eqv];rfl
 rw[Qh,e]
 exact propext ⟨fun h=>h.2.2,fun h=>⟨rfl,rfl,h⟩⟩
theorem Gu{neg:Bool}:cU neg (.v (.tuple xs)) (.v (.tuple ys)) U Q=(SeqAt.shaped (.tuple xs)=true/\SeqAt.shaped (.tuple ys)=true/\Q (.v (.bool (neg ^^ PyData.eqv (.tuple xs) (.tuple ys)))) U):=propext Iff.rfl
theorem JL{neg:Bool}:Pl neg (.v x) (.v (.list ys)) U Q=(PyData.canLayAll0 ys=true/\x.canLay0=true/\PyData.depth x<=60/\Q (.v (.bool (neg ^^ ys.any fun b=>PyData.eqv b x))) U):=propext Iff.rfl
theorem yZ:aF (.v (.list xs)) (.v (.int i)) U Q=(match atI xs i with|some d=>Q (.v d) U|none=>False):=propext Iff.rfl
theorem wL:aF (.v (.tuple xs)) (.v (.int i)) U Q=(match atI xs i with|some d=>Q (.v d) U|none=>False):=propext Iff.rfl
theorem Jy{l:Addr}:aF (.m l) (.v (.int i)) U Q=(match U l with|some xs=>(match atI xs i with|some d=>Q (.v d) U|none=>False)|none=>False):=propext Iff.rfl
theorem Iq{ns:List Int}:aF (.s ns) (.v (.int i)) U Q=(match atI ns i with|some d=>Q (.v (.int d)) U|none=>False):=propext Iff.rfl
theorem xV:aF (.v (.list (x::xs))) (.v (.int 0)) U Q=Q (.v x) U:=by rw[yZ,ze]
theorem yE:aF (.v (.tuple (x::xs))) (.v (.int 0)) U Q=Q (.v x) U:=by rw[wL,ze]
theorem CQ{z}:aF (.v (.list (z::x::xs))) (.v (.int 1)) U Q=Q (.v x) U:=by rw[yZ,yz]
theorem zp{z}:aF (.v (.tuple (z::x::xs))) (.v (.int 1)) U Q=Q (.v x) U:=by rw[wL,yz]
theorem Ew{z w}:aF (.v (.list (z::w::x::xs))) (.v (.int 2)) U Q=Q (.v x) U:=by rw[yZ,Bf]
theorem zJ{z w}:aF (.v (.tuple (z::w::x::xs))) (.v (.int 2)) U Q=Q (.v x) U:=by rw[wL,Bf]
theorem Eo{z w v}:aF (.v (.tuple (z::w::v::x::xs))) (.v (.int 3)) U Q=Q (.v x) U:=by rw[wL,F8]
theorem Je:BG d e U Q=(match qM U d,qM U e with|some xs,some ys=>xs.length+ys.length<=1000/\Q (.v (.list (xs++ys))) U|_,_=>False):=propext Iff.rfl
theorem DQ:lS (.v (.int i)) (.v (.int j)) U Q=Q (.v (.int (i+j))) U:=propext Iff.rfl
theorem DU:lS (.v (.tuple xs)) (.v (.tuple ys)) U Q=(xs.length+ys.length<=1000/\Q (.v (.tuple (xs++ys))) U):=propext Iff.rfl
theorem N5{tl th:DTO}:dSl ta tl th ρ U Q=ta ρ U fun x ad=>tl ρ ad fun l am=>th ρ am fun u bi=>JY x l u bi Q:=propext Iff.rfl
theorem sX:ka ρ U QO=QO none U:=propext Iff.rfl
theorem Cv:wg ta ρ U QO=ta ρ U fun x ad=>match x with|.v (.int i)=>QO (some i) ad|_=>False:=propext Iff.rfl
theorem JO{lo hi:Option Int}:JY (.v (.tuple xs)) lo hi U Q=Q (.v (.tuple (lC xs lo hi))) U:=propext Iff.rfl
theorem IK{lo hi:Option Int}:JY (.v (.list xs)) lo hi U Q=Q (.v (.list (lC xs lo hi))) U:=propext Iff.rfl
theorem Su{rd}:dCB rd tA ρ U Q=tA ρ U fun ds ad=>rd ds ad Q:=propext Iff.rfl
theorem yy:cR [.v (.list ys)] U Q=Q (.v (.int (ys.length:Nat))) U:=propext Iff.rfl
theorem C4:cR [.v (.tuple ys)] U Q=Q (.v (.int (ys.length:Nat))) U:=propext Iff.rfl
theorem Em{ns:List Int}:cR [.s ns] U Q=Q (.v (.int (ns.length:Nat))) U:=propext Iff.rfl
theorem Dk{l:Addr}:cR [.m l] U Q=(match U l with|some ys=>Q (.v (.int (ys.length:Nat))) U|none=>False):=propext Iff.rfl
theorem IV:uI [.v (.int i)] U Q=Q (.v (.int (i.natAbs:Nat))) U:=propext Iff.rfl
theorem OA{g:Int->Int->Int}:DY g [.v (.int i),.v (.int j)] U Q=Q (.v (.int (g i j))) U:=propext Iff.rfl
theorem CU{k:Bool}:tT [.v (.bool k)] U Q=Q (.v (.int (if k then 1 else 0))) U:=propext Iff.rfl
theorem JQ:FN [.v (.list ys)] U Q=(match dj ys with|some bs=>Q (.v (.bool (bs.all id))) U|none=>False):=propext Iff.rfl
theorem IH{T:String}:GC T ta ρ U Q=ta ρ U fun x ad=>match x with|.v d=>Q (.v (.bool (isT T d))) ad|_=>False:=propext Iff.rfl
theorem qm{n:Nat}:aq n d ρ U QG=QG (ρ.set n (some d)) U:=propext Iff.rfl
theorem CI:cF [] ρ U QG=QG ρ U:=propext Iff.rfl
theorem xw{g:DTG}{gs:AD}:aC g gs (x::xs) ρ U QG=g (.v x) ρ U fun re ad=>gs xs re ad QG:=propext Iff.rfl
theorem Cu{n:Nat}{gs:AD}:cC n gs (.v (.tuple xs)) ρ U QG=(xs.length=n/\gs xs ρ U QG):=propext Iff.rfl
theorem Dp:IQ ta tb d ρ U QG=ta ρ U fun o ad=>tb ρ ad fun i am=>match o,i,d with
 |.m l,.v (.int k),.v x=>(match am l with
  |some xs=>(match ixN xs.length k with
   |some j=>QG ρ (aR am l (xs.set j x))
   |none=>False)
  |none=>False)
 |_,_,_=>False:=propext Iff.rfl
theorem ME{g:DTG}:bc ta g Dd ρ U=ta ρ U fun d ad=>g d ρ ad Dd.nx:=propext Iff.rfl
theorem IL{i j:Nat}:wV i j tA Dd ρ U=tA ρ U fun ds ad=>match ds with|[v,w]=>Dd.nx ((ρ.set i (some v)).set j (some w)) ad|_=>False:=propext Iff.rfl
theorem CP:bG Dd ρ U=Dd.nx ρ U:=propext Iff.rfl
theorem Bl:aL s1 s2 Dd ρ U=s1 {Dd with nx:=s2 Dd} ρ U:=propext Iff.rfl
theorem Gy:bo ta Dd ρ U=ta ρ U Dd.rt:=propext Iff.rfl
theorem Cs:j5 ta Dd ρ U=ta ρ U fun _ ad=>Dd.nx ρ ad:=propext Iff.rfl
theorem MP:cA t s1 s2 Dd ρ U=t ρ U fun b ad=>if b=true then s1 Dd ρ ad else s2 Dd ρ ad:=propext Iff.rfl
theorem xq:j4 Dd ρ U=False:=propext Iff.rfl
theorem Ny{dsp:DSp}:ax dsp tA ρ U Q=tA ρ U fun ds ad=>dsp ds ad Q:=propext Iff.rfl
theorem Jr:G7 ta tb ρ U Q=ta ρ U fun x ad=>match x with
 |.m l=>tb ρ ad fun y am=>(match y,am l with
  |.v d,some xs=>xs.length<1000/\Q (.v .none) (aR am l (xs++[d]))
  |_,_=>False)
 |_=>False:=propext Iff.rfl
theorem JN:UD ta tb ρ U Q=ta ρ U fun x ad=>match x with
 |.m l=>tb ρ ad fun y am=>(match y,am l with
  |.v (.list ys),some xs=>xs.length+ys.length<=1000/\Q (.v .none) (aR am l (xs++ys))
  |_,_=>False)
 |_=>False:=propext Iff.rfl
theorem CL:iI ρ U QT=QT true U:=propext Iff.rfl
theorem tD:fS ta ρ U QI=ta ρ U fun d ad=>match d with|.v (.list xs)=>QI xs ad|_=>False:=propext Iff.rfl
theorem xA:n5 ta ρ U QI=ta ρ U fun d ad=>match d with|.v (.tuple xs)=>QI xs ad|_=>False:=propext Iff.rfl
theorem tW:k7 tA ρ U QI=tA ρ U fun ds ad=>match ds with|[.v (.int j)]=>(-(2 ^ 62)<=j/\j<2 ^ 62)/\QI (mL 0 j.toNat) ad|_=>False:=propext Iff.rfl
theorem sH:zY tA ρ U QI=tA ρ U fun ds ad=>match ds with|[.v (.int i),.v (.int j)]=>(-(2 ^ 62)<=i/\i<2 ^ 62/\-(2 ^ 62)<=j/\j<2 ^ 62)/\QI (mL i (j-i).toNat) ad|_=>False:=propext Iff.rfl
theorem mi{src:DTI}{g:DTG}:rH src g s1 Dd ρ U=src ρ U fun xs ad=>∃Pv:Nat->Rho->Mu->Prop,Pv 0 ρ ad /\
 (∀i x ce Z,xs[i]? = some x->Pv i ce Z->g (.v x) ce Z fun dL am=>s1 {Dd with nx:=Pv (i+1),ct:=Pv (i+1),bk:=Dd.nx} dL am)/\(∀ce Z,Pv xs.length ce Z->Dd.nx ce Z):=propext Iff.rfl
theorem nA{cap:List (Option Nat)}{src:DTI}{g:DTG}:pA cap src g t ta ρ U Q=src ρ U fun xs ad=>xs.length<=1000/\∃f:PyData->Option PyData,
 (∀x∈xs,∀Z:Mu,(∀a ds,ad a=some ds->Z a=some ds)->g (.v x) (cN cap ρ) Z fun dL am=>Le (cN cap ρ) dL/\t dL am fun b bi=>
  if b=true then ta dL bi fun d ge=>ge=Z/\(match d with|.v y=>f x=some y|_=>False) else bi=Z/\f x=none)/\Q (.v (.list (xs.filterMap f))) ad:=propext Iff.rfl
theorem C1{α:Type}{r:List (Option α)}:cN [] r=[]:=rfl
theorem Dy{α:Type}{o:Option Nat}{c:List (Option Nat)}{r:List (Option α)}:cN (o::c) r=(o.bind fun j=>(r[j]?).join)::cN c r:=rfl
theorem Jg:Le [] []=True:=propext ⟨fun _=>trivial,fun h=>h⟩
theorem Ip{r r':Rho}{o:Option D}:Le (none::r) (o::r')=Le r r':=propext Iff.rfl
theorem Jq{r r':Rho}{d d':D}:Le (some d::r) (some d'::r')=(d=d'/\Le r r'):=propext Iff.rfl
theorem Ji:vD t s1 Dd ρ U=(∃W:Nat->Rho->Mu->Prop,(∃m,W m ρ U)/\∀m ρ U,W m ρ U ->
 t ρ U fun b ad=>if b=true then s1 {Dd with nx:=fun ce Z=>∃m',m'<m/\W m' ce Z,ct:=fun ce Z=>∃m',m'<m/\W m' ce Z,bk:=Dd.nx} ρ ad else Dd.nx ρ ad):=propext Iff.rfl
end
theorem NO{α β:Type}[BEq α][LawfulBEq α]{x:α}{k:β}:∀{l:List (α×β)},l.lookup x=some k->(x,k)∈l
 |[],h=>by cases h
 |(y,j)::r,h=>by
  rw[lookup_cons] at h
  cases e:x==y with
  |true=>
   rw[e] at h
   simp only[Option.some.injEq] at h
   have:x=y:=eq_of_beq e
   subst this h
   exact mem_cons_self
  |false=>
   rw[e] at h
   exact mem_cons_of_mem _ (NO h)
noncomputable def cfK:NameKind->Bool
 |.cell=>true
 |.free=>true
 |_=>false
theorem Lj{names:List (Str×NameKind)}{cl:List (Str×Addr)}(h:(names.all fun y=>!(cfK y.2) || (cl.lookup y.1).isSome)=true)(x:Str)(hx:names.lookup x=some .cell\/names.lookup x=some .free):∃a,cl.lookup x=some a:=by
 rw[List.all_eq_true] at h
 have key:∀k,cfK k=true->names.lookup x=some k->∃a,cl.lookup x=some a:=fun k hk e=>by
  have q:=h _ (NO e)
  simp only[hk,Bool.not_true,Bool.false_or] at q
  exact Option.isSome_iff_exists.mp q
 rcases hx with e|e
 ·exact key _ rfl e
 ·exact key _ rfl e
noncomputable def Lb(X:Cx)(sc:Scope):List (Option Nat)->List Str->Prop
 |none::c,_::n=>Lb X sc c n
 |some j::c,x::n=>(X.N[j]? = some x/\Vis X.env.scope x/\X.env.kindOf x≠some .local/\((relabel sc X.env).names.lookup x=some .cell\/(relabel sc X.env).names.lookup x=some .free))/\Lb X sc c n
 |_,_=>True
theorem HR{X:Cx}{sc:Scope}:∀{c:List (Option Nat)} {n:List Str},Lb X sc c n->∀(i j:Nat) (x:Str),c[i]? = some (some j)->n[i]? = some x ->
  X.N[j]? = some x/\Vis X.env.scope x/\X.env.kindOf x≠some .local/\((relabel sc X.env).names.lookup x=some .cell\/(relabel sc X.env).names.lookup x=some .free)
 |[],_,_,i,j,x,h,_=>by simp at h
 |_::_,[],_,i,j,x,_,h=>by simp at h
 |none::c,y::n,k,0,j,x,h,_=>by simp at h
 |none::c,y::n,k,i+1,j,x,h,g=>HR (c:=c) (n:=n) k i j x (by simpa using h) (by simpa using g)
 |some l::c,y::n,k,0,j,x,h,g=>by
  simp only[List.getElem?_cons_zero,Option.some.injEq] at h g
  subst h g
  exact k.1
 |some l::c,y::n,k,i+1,j,x,h,g=>HR (c:=c) (n:=n) k.2 i j x (by simpa using h) (by simpa using g)
theorem UW{X:Cx}{sc:Scope}{j:Nat}{x:Str}(h1:X.N[j]? = some x:=by rfl)(h2:Vis X.env.scope x:=by first|exact Or.inl rfl|exact Or.inr (Or.inl rfl)|exact Or.inr (Or.inr rfl))(h3:X.env.kindOf x≠some .local:=by first|(intro z;cases z)|exact (fun z=>nomatch z))
  (h4:(relabel sc X.env).names.lookup x=some .cell\/(relabel sc X.env).names.lookup x=some .free:=by first|exact Or.inl rfl|exact Or.inr rfl):X.N[j]? = some x/\Vis X.env.scope x/\X.env.kindOf x≠some .local/\((relabel sc X.env).names.lookup x=some .cell\/(relabel sc X.env).names.lookup x=some .free):=⟨h1,h2,h3,h4⟩
noncomputable def lK(U:Mu)(p:Addr):Mu:=⟨fun b=>if b=p then none else U b,U.b⟩
theorem gF{U:Mu}{p b:Addr}(h:b≠p):lK U p b=U b:=if_neg h
theorem ia{U:Mu}{p:Addr}:lK U p p=none:=if_pos rfl
noncomputable def ie(cap:List (Option Nat))(src:DTI)(g:DTG)(c:DTT)(elt:DTE):DTE:=fun ρ U Q=>src ρ U fun xs ad=>xs.length<=1000/\∀p,ad p=none->∃Pv:Nat->List PyData->Mu->Prop,Pv 0 [] (aR ad p []) /\
 (∀i x acc Z,xs[i]? = some x->Z p=some acc->Pv i acc Z->g (.v x) (cN cap ρ) Z fun dL am=>Le (cN cap ρ) dL/\c dL am fun b bi=>
  if b=true then elt dL bi fun d ge=>ge p=some acc/\(match d with|.v y=>Pv (i+1) (acc++[y]) (aR ge p (acc++[y]))|_=>False) else bi p=some acc/\Pv (i+1) acc bi) /\
 (∀acc Z,Pv xs.length acc Z->Z p=some acc->Q (.v (.list acc)) (lK Z p))
theorem ns_obj{h:Heap}{C:Addr}{m:Str->Option Value}(hn:h.Ns C m):∃o,h.get? C=some o/\∀v,o.data≠.cell v:=let ⟨o,es,ep,ho,hd,_⟩:=hn;⟨o,ho,fun v z=>by rw[hd] at z;cases z⟩
theorem PD{h h':Heap}{C:Addr}{m:Str->Option Value}(hn:h.Ns C m)(e:h'.get? C=h.get? C):h'.Ns C m:=let ⟨o,es,ep,ho,r⟩:=hn;⟨o,es,ep,e.trans ho,r⟩
theorem j8{cap:List (Option Nat)}{src:DTI}{g:DTG}{t:DTT}{ta:DTE}{ρ:Rho}{U:Mu}{Q:DK}:ie cap src g t ta ρ U Q=src ρ U fun xs ad=>xs.length<=1000/\∀p,ad p=none->∃Pv:Nat->List PyData->Mu->Prop,Pv 0 [] (aR ad p []) /\
 (∀i x acc Z,xs[i]? = some x->Z p=some acc->Pv i acc Z->g (.v x) (cN cap ρ) Z fun dL am=>Le (cN cap ρ) dL/\t dL am fun b bi=>
  if b=true then ta dL bi fun d ge=>ge p=some acc/\(match d with|.v y=>Pv (i+1) (acc++[y]) (aR ge p (acc++[y]))|_=>False) else bi p=some acc/\Pv (i+1) acc bi) /\
 (∀acc Z,Pv xs.length acc Z->Z p=some acc->Q (.v (.list acc)) (lK Z p)):=propext Iff.rfl
theorem p5{U:Mu}{p:Addr}{ds:List PyData}(h:U p=none):lK (aR U p ds) p=U:=Mu.eq (fun b=>by
 by_cases e:b=p
 ·rw[e,ia,h]
 ·rw[gF e,aT e]) fun _=>rfl
theorem RB{xs:List PyData}{f:PyData->Option PyData}{i:Nat}{d:PyData}(h:xs[i]? = some d):(xs.take (i+1)).filterMap f=(xs.take i).filterMap f++(f d).toList:=H0 h
theorem Inv.HC{X:Cx}{pins:List (Addr×Obj)}{σ:St}{H:Hp}{s:Shared}{h':Heap}{t':Nat}{ch:List Addr}{a:Addr}{o:HO}(I:Inv X pins σ H s)(hc:∀b∈ch,xG X pins H b)
  (k:∀b u,b ∉ ch->s.heap.get? b=some u->h'.get? b=some u) (hp:s.heap.objs.size<=a) (new:iM X.prog X.w (upd H a o) h' a o):Inv X pins σ (upd H a o) {s with heap:=h',toks:=t'}:=by
 have hn:=I.hok.fresh hp
 have nin:∀b u,H b=some u->b ∉ ch:=fun b u e z=>by rw[(hc b z).1] at e;cases e
 refine I.call (g':=s.gens) (d':=s.drawn) (t':=t') (ch:=ch) ?_ ?_ I.bare fun b hb=>?_
 ·exact⟨fun b u q _ _ x=>k b u x q,fun b u q _ _ x=>⟨u.slots,k b u x q⟩,fun b u q n _=>by rw[aP (ne_of_lt (lt_of_lt_of_le (Heap.lt_size q) hp))];exact n,fun b u q x=>⟨u,k b u x q⟩,
   fun b xs q=>by rw[aP (aI q hn)];exact q,fun b u xs q=>by rw[aP (aI q hn)];exact q,fun b ps q=>⟨#[],by rw[aP (aI q hn),q];simp⟩⟩
 ·intro b u e
  by_cases hb:b=a
  ·subst hb;rw[bS] at e;cases e;exact new
  ·rw[aP hb] at e
   refine (I.hok b u e).xa (fun c v hcv q=>k c v ?_ q) (fun c q=>by rw[aP (aI q hn)];exact q) fun c xs q=>by rw[aP (aI q hn)];exact q
   rcases hcv with z|z
   ·rw[z];exact nin b u e
   ·exact nin c _ z
 ·obtain⟨_,f1,f2,f3,f4,f5⟩:=hc b hb
  exact⟨f3,f1,f4,f5⟩
theorem Inv.Oo{X:Cx}{pins:List (Addr×Obj)}{σ:St}{H:Hp}{s:Shared}{h':Heap}{t':Nat}{ch:List Addr}(I:Inv X pins σ H s)(hc:∀b∈ch,xG X pins H b)
  (k:∀b u,b ∉ ch->s.heap.get? b=some u->h'.get? b=some u):Inv X pins σ H {s with heap:=h',toks:=t'}:=by
 have nin:∀b u,H b=some u->b ∉ ch:=fun b u e z=>by rw[(hc b z).1] at e;cases e
 refine I.call (g':=s.gens) (d':=s.drawn) (t':=t') (ch:=ch) ?_ ?_ I.bare fun b hb=>?_
 ·exact⟨fun b u q _ _ x=>k b u x q,fun b u q _ _ x=>⟨u.slots,k b u x q⟩,fun b u q n _=>n,fun b u q x=>⟨u,k b u x q⟩,fun b xs q=>q,fun b u xs q=>q,fun b ps q=>⟨#[],by rw[q];simp⟩⟩
 ·intro b u e
  refine (I.hok b u e).xa (fun c v hcv q=>k c v ?_ q) (fun c q=>q) fun c xs q=>q
  rcases hcv with z|z
  ·rw[z];exact nin b u e
  ·exact nin c _ z
 ·obtain⟨_,f1,f2,f3,f4,f5⟩:=hc b hb
  exact⟨f3,f1,f4,f5⟩
section
variable {X:Cx}{es:List Expr}{x1:Nat}{tpos:Pos}
noncomputable def LY:List PyData->List PyData->List PyData
 |x::xs,y::ys=>.tuple [x,y]::LY xs ys
 |_,_=>[]
end
section
variable {X:Cx}{a b e:Expr}{es:List Expr}{ta tb te:DTE}{t:DTA}{p pos:Pos}
noncomputable def en:List D->Mu->DK->Prop:=fun xs U Q=>match xs with
 |[.v (.list ys)]=>Q (.v (.tuple ys)) U
 |[.v (.tuple ys)]=>Q (.v (.tuple ys)) U
 |[.m l]=>(match U l with|some ys=>Q (.v (.tuple ys)) U|none=>False)
 |_=>False
theorem L7{K:PySem.W.Frag}:nQ K (fun xs H Q=>∃p ys,xs=[.ref p]/\((SqL K H p ys/\∀l,H l=none->Q (.ref l) (upd H l (.tup ys)))\/(SqT K H p ys/\Q (.ref p) H))) en:=by
 intro xs us H U Qd Q ok rs h k
 unfold en at h
 split at h
 ·cases rs with
  |cons r1 r2=>
   cases r2
   cases r1 with
   |list hs hn r=>exact⟨_,_,rfl,.inl ⟨SqL.of hs,fun l hl=>k (.v _) _ U _ (dM hl) (ok.new hl) (iq ok r hl) h⟩⟩
 ·cases rs with
  |cons r1 r2=>
   cases r2
   cases id r1 with
   |tuple hs r=>exact⟨_,_,rfl,.inr ⟨hs,k (.v _) _ U H .refl ok r1 h⟩⟩
 ·cases rs with
  |cons r1 r2=>
   cases r2
   obtain⟨rfl,ds,hm⟩:=r1
   rw[hm] at h
   obtain⟨us,hl,r⟩:=ok _ ds hm
   exact⟨_,_,rfl,.inl ⟨SqL.of hl,fun l hl'=>k (.v _) _ U _ (dM hl') (ok.new hl') (iq ok r hl') h⟩⟩
 ·exact h.elim
theorem iK(hg:Gl X "tuple")(hm:X.mg "tuple"=none)(ha:DA X (e::es) t)
  (he:starEach (e::es) X.env=(false,eval e X.env)::starEach es X.env:=by rfl) (hpl:(backTo pos (starEach es X.env)).any (·.1)=false:=by rfl):DE X (.Call (.Name "tuple" p) (e::es) [] pos) (dCB en t):=
 vv AH L7 hg hm PyProof.Rows.Boot.«tuple» ha ⋯ ⋯ he hpl
theorem uP{ys:List PyData}{U:Mu}{Q:DK}:en [.v (.list ys)] U Q=Q (.v (.tuple ys)) U:=propext Iff.rfl
theorem sU{l:Addr}{U:Mu}{Q:DK}:en [.m l] U Q=(match U l with|some ys=>Q (.v (.tuple ys)) U|none=>False):=propext Iff.rfl
noncomputable def Fj:D->D->Mu->DK->Prop:=fun x y U Q=>match x,y with
 |.v (.list xs),.v (.int k)=>(0<=k/\k<=1000/\xs.length*k.toNat<=1000)/\Q (.v (.list (List.replicate k.toNat xs).flatten)) U
 |_,_=>False
theorem RpL.rep{K:PySem.W.Frag}{U:Mu}{H:Hp}{ds:List PyData}{us:List V}(r:RpL K U H ds us):∀n:Nat,RpL K U H (List.replicate n ds).flatten (List.replicate n us).flatten
 |0=>.nil
 |n+1=>by rw[replicate_succ,flatten_cons,replicate_succ,flatten_cons];exact r.append (RpL.rep r n)
theorem Rz{K:PySem.W.Frag}:jJ K TR Fj:=by
 intro x y ux uy H U Qd Q ok rx ry h k
 unfold Fj at h
 split at h
 ·rename_i xs n
  cases ry
  cases rx with
  |@list a us _ ha hn ra=>exact⟨a,n,us,rfl,rfl,ha,∅,∅,DD (by rw[<- ra.length];exact h.1.2.2),fun p hp=>k (.v _) _ U _ (dM hp) (ok.new hp) (jC ok (ra.rep _) hp) h.2⟩
 ·exact h.elim
theorem R3(ha:DE X a ta)(hb:DE X b tb):DE X (.BinOp a .Mult b pos) (dOp Fj ta tb):=sP RG Rz ha hb
theorem JB{xs:List PyData}{k:Int}{U:Mu}{Q:DK}:Fj (.v (.list xs)) (.v (.int k)) U Q=((0<=k/\k<=1000/\xs.length*k.toNat<=1000)/\Q (.v (.list (List.replicate k.toNat xs).flatten)) U):=propext Iff.rfl
end
theorem cl1{k:Str}{v:Addr}{r:List (Str×Addr)}{x:Str}{a:Addr}(h:List.lookup x [(k,v)]=some a):List.lookup x ((k,v)::r)=some a:=by
 simp only[lookup_cons] at h ⊢
 cases e:x==k with
 |true=>rw[e] at h;exact h
 |false=>rw[e] at h;exact absurd h (by simp)
theorem cl2{k k':Str}{v v':Addr}{r:List (Str×Addr)}{x:Str}{a:Addr}(n:(k==k')=false)(h:List.lookup x [(k,v)]=some a):List.lookup x ((k',v')::(k,v)::r)=some a:=by
 have g:=cl1 (r:=r) h
 simp only[lookup_cons] at h
 cases e:x==k with
 |true=>
  have e':x=k:=by simpa using e
  subst e'
  rw[lookup_cons,n]
  exact g
 |false=>rw[e] at h;exact absurd h (by simp)
section
variable {X:Cx}{e:Expr}{es:List Expr}{t:DTA}{p pos:Pos}
theorem IF:∀{ns:List Int} {us:List Value},Vals (ns.map V.int) us->PyProof.Rows.IntsAre us ns
 |[],_,.nil=>.nil
 |n::r,_,.cons h t=>by obtain⟨tk,rfl⟩:=h;exact .cons n tk (IF t)
theorem KO(hc:X.calm=true):jc X (.builtin "sum") (fun xs H Q=>∃(p:Addr) (ns:List Int),xs=[.ref p]/\H p=some (.lst (ns.map V.int))/\Q (.int ns.sum) H):=by
 intro pins s σ H xs us Q I r h
 obtain⟨l,ns,rfl,hl,q⟩:=h
 obtain⟨u,rfl,rx⟩:=vals1 r
 cases rx
 obtain⟨its,rv,pl,_⟩:=I.list (SqL.of hl)
 have hi:=IF rv
 have hL:=pl.isList
 obtain⟨xs,hx⟩:=hi.allInts.items
 have hn:numsOf its.toArray.toList=ns:=by rw[show its.toArray.toList=its from rfl,hi.numsOf]
 rw[hx] at hL hn
 rw[nums_intItems] at hn
 refine sum_intListG (I.ok.hd hc) hL fun h' tk t' hk=>?_
 rw[preSum_eq,take_of_length_le (by simp),hn]
 exact⟨.int ns.sum,H,I.kept hk,⟨_,rfl⟩,q⟩
noncomputable def d5:List PyData->Option (List Int)
 |[]=>some []
 |.int b::r=>(d5 r).map (b::·)
 |_::_=>none
theorem BP{K:PySem.W.Frag}{U:Mu}{H:Hp}:∀{xs:List PyData} {us:List V} {bs:List Int},RpL K U H xs us->d5 xs=some bs->us=bs.map V.int
 |_,_,_,.nil,e=>by cases e;rfl
 |.int b::r,_,bs,.cons h t,e=>by
  simp only[d5] at e
  cases q:d5 r with
  |none=>rw[q] at e;cases e
  |some cs=>rw[q] at e;cases e;cases h;rw[BP t q];rfl
 |.none::r,_,bs,.cons h t,e=>by simp[d5] at e
 |.bool _::r,_,bs,.cons h t,e=>by simp[d5] at e
 |.str _::r,_,bs,.cons h t,e=>by simp[d5] at e
 |.list _::r,_,bs,.cons h t,e=>by simp[d5] at e
 |.tuple _::r,_,bs,.cons h t,e=>by simp[d5] at e
 |.dict _::r,_,bs,.cons h t,e=>by simp[d5] at e
noncomputable def Bi:List D->Mu->DK->Prop:=fun xs U Q=>match xs with
 |[.v (.list ys)]=>(match d5 ys with|some bs=>Q (.v (.int bs.sum)) U|none=>False)
 |_=>False
theorem Q0{K:PySem.W.Frag}:nQ K (fun xs H Q=>∃(p:Addr) (ns:List Int),xs=[.ref p]/\H p=some (.lst (ns.map V.int))/\Q (.int ns.sum) H) Bi:=by
 intro xs us H U Qd Q ok rs h k
 unfold Bi at h
 split at h
 ·rename_i ys
  cases q:d5 ys with
  |none=>rw[q] at h;exact h.elim
  |some bs=>
   rw[q] at h
   cases rs with
   |cons r1 r2=>
    cases r2
    cases r1 with
    |list hs hn r=>exact⟨_,bs,rfl,by rw[hs,BP r q],k (.v _) _ U H .refl ok (Rp.int _) h⟩
 ·exact h.elim
theorem MB(hc:X.calm=true)(hg:Gl X "sum")(hm:X.mg "sum"=none)(ha:DA X (e::es) t)
  (he:starEach (e::es) X.env=(false,eval e X.env)::starEach es X.env:=by rfl) (hpl:(backTo pos (starEach es X.env)).any (·.1)=false:=by rfl):DE X (.Call (.Name "sum" p) (e::es) [] pos) (dCB Bi t):=
 jx (KO hc) Q0 hg hm PyProof.Rows.Boot.«sum» ha ⋯ ⋯ he hpl
theorem PX{ys:List PyData}{U:Mu}{Q:DK}:Bi [.v (.list ys)] U Q=(match d5 ys with|some bs=>Q (.v (.int bs.sum)) U|none=>False):=propext Iff.rfl
end
section
variable {X:Cx}{a b c:Expr}{ta tb tc:DTE}{pos:Pos}
theorem cl3{k k':Str}{v v':Addr}{x:Str}{a:Addr}(n:(k==k')=false)(h:List.lookup x [(k,v),(k',v')]=some a):List.lookup x [(k',v'),(k,v)]=some a:=by
 simp only[lookup_cons,List.lookup_nil] at h ⊢
 cases e:x==k with
 |true=>
  have e':x=k:=by simpa using e
  subst e'
  rw[e] at h
  rw[n]
  exact h
 |false=>
  rw[e] at h
  cases e2:x==k' with
  |true=>rw[e2] at h;exact h
  |false=>rw[e2] at h;exact absurd h (by simp)
end
section
variable {X:Cx}{o e:Expr}{to te:DTE}{apos cpos pos:Pos}
noncomputable def U9(to:DTE):DTE:=fun ρ U Q=>to ρ U fun x ad=>match x with
 |.m l=>(match ad l with
  |some xs=>∃d,xs[xs.length-1]? = some d/\Q (.v d) (aR ad l xs.dropLast)
  |none=>False)
 |_=>False
theorem RpL.eraseIdx{K:PySem.W.Frag}{U:Mu}{H:Hp}:∀{ds:List PyData} {us:List V} (i:Nat),RpL K U H ds us->RpL K U H (ds.eraseIdx i) (us.eraseIdx i)
 |_,_,_,.nil=>.nil
 |_,_,0,.cons _ t=>t
 |_,_,i+1,.cons h t=>.cons h (RpL.eraseIdx i t)
noncomputable def HY(to te:DTE):DTE:=fun ρ U Q=>to ρ U fun x ad=>match x with
 |.m l=>te ρ ad fun y am=>(match y,am l with
  |.v (.int i),some xs=>(0<=i/\i<1000)/\∃d,xs[i.toNat]? = some d/\Q (.v d) (aR am l (xs.eraseIdx i.toNat))
  |_,_=>False)
 |_=>False
theorem Tt{i:Int}{n:Nat}(h0:0<=i)(h:i.toNat<n):seqIndex? i n=some i.toNat:=by
 unfold seqIndex?
 simp only[Option.ite_none_right_eq_some,Option.some.injEq]<;>first|(split<;>(try split)<;>simp_all<;>omega)|(constructor<;>omega)|omega
theorem LV(ho:DE X o to)(ha:DE X e te)(hbase:attributeBase o "pop" X.env (eval o X.env)=eval o X.env:=by rfl)
  (hfew:((backTo cpos (starEach [e] X.env)).all (fun x=>!x.1)&&(backToKw cpos (keywordEach [] X.env)).all (fun x=>x.1.isSome)
   && decide ([e].length+([]:List Keyword).length+(if ([]:List Keyword).isEmpty then 0 else 1)<30))=true:=by rfl)
  (hline:(apos.endLine==cpos.line)=true:=by rfl) (hs:starEach [e] X.env=(false,eval e X.env)::starEach [] X.env:=by rfl) (hplain:(backTo cpos (starEach [] X.env)).any (·.1)=false:=by rfl) :
  DE X (.Call (.Attribute o "pop" apos) [e] [] cpos) (HY to te):=by
 obtain⟨t1,p1,l1⟩:=ho
 obtain⟨t2,p2,l2⟩:=ha
 refine⟨_,Lk PySem.F.plainAttrs_list PySem.F.slot_list_pop PySem.F.type_list_pop M9 p1 (eY p2 pB hs) hbase hfew hline hs hplain,fun σ H ρ U Qd Q S h k=>?_⟩
 refine l1 σ H ρ U _ _ S h fun x ux ad H1 e1 S1 rx h1=>?_
 cases x with
 |m l=>
  obtain⟨rfl,ds,hm⟩:=id rx
  obtain⟨us,hl,rl⟩:=S1.mu l ds hm
  refine⟨.inl ⟨rfl,us,SqL.of hl⟩,?_⟩
  refine l2 σ H1 ρ ad _ _ S1 h1 fun y uy am H2 e2 S2 ry h2=>?_
  obtain⟨_,ds2,hm2⟩:=rx.ext S1.mu e2
  obtain⟨us2,hl2,rl2⟩:=S2.mu l ds2 hm2
  rw[hm2] at h2
  split at h2
  ·rename_i i ds3 e3
   cases e3
   obtain⟨⟨i0,i1⟩,d,hd,q⟩:=h2
   cases ry
   obtain⟨u,hu,ru⟩:=rl2.get hd
   have hlt:i.toNat<us2.length:=by
    rcases lt_or_ge i.toNat us2.length with z|z
    ·exact z
    ·rw[getElem?_eq_none z] at hu;cases hu
   have ex:Ext X.K am H2 (aR am l (ds2.eraseIdx i.toNat)) (upd H2 l (.lst (us2.eraseIdx i.toNat))):=kd hm2
   exact⟨l,us2,i,i.toNat,u,rfl,rfl,hl2,∅,∅,Tt i0 hlt,hu,k (.v d) u _ _ (e1.trans (e2.trans ex)) ⟨S2.mu.set hm2 (rl2.eraseIdx _),S2.rho.ext S2.mu ex⟩ (ru.ext S2.mu ex) q⟩
  ·exact h2.elim
 |v d=>exact h1.elim
 |s ns=>exact h1.elim
 |o _=>exact h1.elim
 |b _=>exact h1.elim
 |q _=>exact h1.elim
end
noncomputable def NW(cells:List (Str×Addr)):List (Str×Addr)->Prop
 |[]=>True
 |(k,v)::r=>cells.lookup k=some v/\NW cells r
theorem wY{cells:List (Str×Addr)}:NW cells []:=trivial
theorem ej{cells r:List (Str×Addr)}{k:Str}{v:Addr}(h:cells.lookup k=some v)(t:NW cells r):NW cells ((k,v)::r):=⟨h,t⟩
theorem md{cells:List (Str×Addr)}:∀{cl:List (Str×Addr)},NW cells cl->∀x a,cl.lookup x=some a->cells.lookup x=some a
 |[],_,_,_,h=>by simp at h
 |(k,v)::r,c,x,a,h=>by
  rw[lookup_cons] at h
  cases e:x==k with
  |true=>
   have e':x=k:=by simpa using e
   rw[e] at h
   subst e'
   rw[c.1];exact h
  |false=>
   rw[e] at h
   exact md c.2 x a h
noncomputable def Fly(O:Addr->Prop)(h:Heap)(e:Addr)(cls fl:Value):Prop:=(∀b,O b->b<h.objs.size)/\∃oe vs T oT ts,h.get? e=some oe/\oe.cls=cls/\oe.data = .fields vs/\vs[1]? = some (.ref T)/\vs[2]? = some .none/\¬ O e/\¬ O T/\T≠e/\h.get? T=some oT/\oT.data = .fields ts/\ts[3]? = some fl
structure Kp(O:Addr->Prop)(fs:List Addr)(h h':Heap):Prop where
 keep:∀b o,h.get? b=some o->O b->b ∉ fs->h'.get? b=some o
 slot:∀b o,h.get? b=some o->(∀vs,o.data≠.fields vs)->∃sl,h'.get? b=some {o with slots:=sl}
section
variable {O:Addr->Prop}{fs:List Addr}{h h1 h2:Heap}
theorem Kp.trans(a:Kp O fs h h1)(b:Kp O fs h1 h2):Kp O fs h h2:=⟨fun c o e l f=>b.keep c o (a.keep c o e l f) l f,fun c o e d=>let ⟨_,e1⟩:=a.slot c o e d;let ⟨sl,e2⟩:=b.slot c _ e1 d;⟨sl,e2⟩⟩
theorem Kp.of(k:∀b o,h.get? b=some o->h1.get? b=some o):Kp O fs h h1:=⟨fun b o e _ _=>k b o e,fun b o e _=>⟨o.slots,k b o e⟩⟩
theorem Kp.frames{base:Heap}{l:List Env}(a:Kp O fs h h1)(k:h.FunFrames base l):h1.FunFrames base l:=k.of_keeps fun b o e d=>let ⟨_,e1⟩:=a.slot b o e d;⟨_,e1,rfl⟩
end
section
variable {M:Model}{A:Around}{E:Value->Shared->Prop}{s:Shared}{O:Addr->Prop}{e L:Addr}{cls fl:Value}{env:Env}{outer:List Env}{base:Heap}{Q:Unit->Shared->Prop}
theorem F1{oe:Obj}{vs:Array Value}{head:Value}{hadNext:Bool}(hfr:A.frames=some (env::outer))(hl:s.heap.FunFrames base (env::outer))(hf:env.frame=some L)
  (he:s.heap.get? e=some oe) (hc:oe.cls=cls) (hd:oe.data = .fields vs) (hz:1<vs.size) (h2:vs[2]? = some .none) (hO:∀b,O b->b<s.heap.objs.size) (hn:¬ O e)
  (k:∀h',Kp O (frs (env::outer)) s.heap h'->Fly O h' e cls (rawInt L)->Q () {s with heap:=h'}) :
  wpAny M A (do let a <- frameOf env;let pl <- entryPlaceOf L hadNext;let b <- EntryCells.newEntry head a .none (rawInt L) .none pl;setField (.ref e) 1 b) Q E s:=by
 have ene:e ∉ frs (env::outer):=fun hm=>by
  obtain⟨_,o,ho,hnf⟩:=hl.mem hm
  rw[he] at ho
  exact hnf vs (by rw[<- Option.some.inj ho];exact hd)
 refine wpAny_bind (wpAny_frameOf_fun hfr hl hf fun g1 s1=>wpAny_bind (wpAny_entryPlaceOf fun pl hpl=>?_))
 unfold EntryCells.newEntry newFields;refine wpAny_bind (wpAny_newObj_type ?_ (hpl.sizeOk5 _ _ _ _ _))
 generalize hob:({cls:=.type "traceback",dict:=none,data:=.fields ([head,.ref L,.none,rawInt L,.none]++(if pl.isEmpty then List.replicate 6 Value.none else pl)).toArray}:Obj)=ob
 have e1:g1.get? e=some oe:=(s1.2.1 e ene).trans he
 have e2:(g1.push ob).get? e=some oe:=Heap.get?_push_of_some ob e1
 have neT:g1.objs.size≠e:=Nat.ne_of_gt (Heap.lt_size e1)
 have d3:=Obj.data_mapFields hd (·.setIfInBounds 1 (Value.ref g1.objs.size))
 have szs:¬ O g1.objs.size:=fun z=>absurd (hO _ z) (by rw[s1.1];exact lt_irrefl _)
 refine wpAny_setField e2 hd hz (k _ ⟨fun b o q l f=>?_,fun b o q d=>?_⟩ ?_)
 ·have bne:e≠b:=fun z=>hn (by rw[z];exact l)
  rw[Heap.get?_update_other _ _ bne]
  exact Heap.get?_push_of_some _ ((s1.2.1 b f).trans q)
 ·have bne:e≠b:=fun z=>by rw[<- z,he] at q;exact d vs (by rw[<- Option.some.inj q];exact hd)
  obtain⟨sl,q1⟩:=s1.2.2 b o q
  exact⟨sl,by rw[Heap.get?_update_other _ _ bne];exact Heap.get?_push_of_some _ q1⟩
 ·refine⟨fun b z=>lt_of_lt_of_le (hO b z) (by rw[Heap.size_after_update,Heap.size_push,s1.1];exact Nat.le_succ _),_,_,g1.objs.size,ob,_,Heap.get?_update_self _ e2 (Obj.isFreed_of_fields d3),(Obj.cls_mapFields ..).trans hc,d3,by simp[hz],by rw[Array.getElem?_setIfInBounds_ne ⋯];exact h2,hn,szs,neT,?_,by rw[<- hob],?_⟩
  ·rw[Heap.get?_update_other _ _ (Ne.symm neT)]
   exact Heap.get?_push_size g1 (by rw[<- hob];rfl)
  ·rcases hpl with z|⟨_,_,_,_,_,_,_,z⟩<;>(rw[z];rfl)
theorem HL{oe:Obj}{vs:Array Value}(hfr:A.frames=some (env::outer))(hl:s.heap.FunFrames base (env::outer))(hf:env.frame=some L)
  (he:s.heap.get? e=some oe) (hc:oe.cls=cls) (hd:oe.data = .fields vs) (h1:vs[1]? = some .none) (h2:vs[2]? = some .none) (hO:∀b,O b->b<s.heap.objs.size) (hn:¬ O e)
  (k:∀h',Kp O (frs (env::outer)) s.heap h'->Fly O h' e cls (rawInt L)->Q () {s with heap:=h'}):wpAny M A (noteFrame (.ref e) env) Q E s:=by
 unfold noteFrame;simp only[hf]
 refine wpAny_bind (wpAny_field he hd h1 ?_)
 rw[if_neg ⋯]
 exact F1 hfr hl hf he hc hd (Array.getElem?_eq_some_iff.mp h1).1 h2 hO hn k
theorem Br(hfr:A.frames=some (env::outer))(hl:s.heap.FunFrames base (env::outer))(hf:env.frame=some L)(F:Fly O s.heap e cls .none)
  (k:∀h',Kp O (frs (env::outer)) s.heap h'->Fly O h' e cls (rawInt L)->Q () {s with heap:=h'}):wpAny M A (noteFrame (.ref e) env) Q E s:=by
 obtain⟨hO,oe,vs,T,oT,ts,he,hc,hd,h1,h2,hn,hT,nT,gT,dT,h3⟩:=F
 unfold noteFrame;simp only[hf]
 refine wpAny_bind (wpAny_field he hd h1 ?_)
 rw[if_pos (by simp)]
 refine wpAny_bind (wpAny_field gT dT h3 ?_)
 rw[if_neg (by simp[rawInt])]
 have oth:∀b,b≠T->(s.heap.update T (Obj.mapFields (·.setIfInBounds 3 Value.none))).get? b=s.heap.get? b:=fun b hb=>Heap.get?_update_other _ _ (Ne.symm hb)
 have kp:Kp O (frs (env::outer)) s.heap (s.heap.update T (Obj.mapFields (·.setIfInBounds 3 Value.none))):=
  ⟨fun b o q l _=>(oth b fun z=>hT (by rw[<- z];exact l)).trans q,fun b o q d=>⟨o.slots,(oth b fun z=>by rw[z,gT] at q;exact d ts (by rw[<- Option.some.inj q];exact dT)).trans q⟩⟩
 refine wpAny_bind (wpAny_setField gT dT (Array.getElem?_eq_some_iff.mp h3).1 ?_)
 exact F1 (s:={s with heap:=s.heap.update T (Obj.mapFields (·.setIfInBounds 3 Value.none))}) hfr (kp.frames hl) hf ((oth e (Ne.symm nT)).trans he) hc hd (Array.getElem?_eq_some_iff.mp h1).1 h2 (fun b z=>by rw[Heap.size_after_update];exact hO b z) hn fun h' a b=>k h' (kp.trans a) b
theorem kz{fs:List Addr}(F:Fly O s.heap e cls fl)(k:∀h',Kp O fs s.heap h'->Fly O h' e cls .none->Q () {s with heap:=h'}):wpAny M A (setFlight (.ref e) none) Q E s:=by
 obtain⟨hO,oe,vs,T,oT,ts,he,hc,hd,h1,h2,hn,hT,nT,gT,dT,h3⟩:=F
 have z3:3<ts.size:=(Array.getElem?_eq_some_iff.mp h3).1
 unfold setFlight
 refine wpAny_bind (wpAny_field he hd h1 ?_)
 rw[if_pos (by simp)]
 have oth:∀b,b≠T->(s.heap.update T (Obj.mapFields (·.setIfInBounds 3 ((none:Option Addr).elim Value.none fun f=>rawInt f)))).get? b=s.heap.get? b:=fun b hb=>Heap.get?_update_other _ _ (Ne.symm hb)
 refine wpAny_setField gT dT z3 (k _ ⟨fun b o q l _=>(oth b fun z=>hT (by rw[<- z];exact l)).trans q,fun b o q d=>⟨o.slots,(oth b fun z=>by rw[z,gT] at q;exact d ts (by rw[<- Option.some.inj q];exact dT)).trans q⟩⟩ ?_)
 exact⟨fun b z=>by rw[Heap.size_after_update];exact hO b z,oe,vs,T,_,_,(oth e (Ne.symm nT)).trans he,hc,hd,h1,h2,hn,hT,nT,Heap.get?_update_self _ gT (Obj.isFreed_of_fields (Obj.data_mapFields dT _)),Obj.data_mapFields dT _,by simp[z3]⟩
theorem E5{oe:Obj}{vs:Array Value}(hfr:A.frames=some (env::outer))(hl:s.heap.FunFrames base (env::outer))(hf:env.frame=some L)
  (he:s.heap.get? e=some oe) (hc:oe.cls=cls) (hd:oe.data = .fields vs) (h1:vs[1]? = some .none) (h2:vs[2]? = some .none) (hO:∀b,O b->b<s.heap.objs.size) (hn:¬ O e)
  (k:∀h',Kp O (frs (env::outer)) s.heap h'->Fly O h' e cls .none->Q () {s with heap:=h'}):wpAny M A (leaving env (.ref e)) Q E s:=by
 unfold leaving
 exact wpAny_bind (HL hfr hl hf he hc hd h1 h2 hO hn fun h' a b=>kz (s:={s with heap:=h'}) b fun h'' a' b'=>k h'' (a.trans a') b')
theorem Hg(hfr:A.frames=some (env::outer))(hl:s.heap.FunFrames base (env::outer))(hf:env.frame=some L)(F:Fly O s.heap e cls .none)
  (k:∀h',Kp O (frs (env::outer)) s.heap h'->Fly O h' e cls .none->Q () {s with heap:=h'}):wpAny M A (leaving env (.ref e)) Q E s:=by
 unfold leaving
 exact wpAny_bind (Br hfr hl hf F fun h' a b=>kz (s:={s with heap:=h'}) b fun h'' a' b'=>k h'' (a.trans a') b')
end
noncomputable def CX1(P:Program)(w:World):CXT:=fun outer H s E e s'=>∃(O:Addr->Prop) (ea:Addr) (cls:Value) (H':Hp),e = .ref ea/\s'.os=s.os/\AllBare s'.gens/\Un (frs outer) [] H H' s.heap s'.heap/\HOk P w H' s'.heap /\
 (∀b o,s.heap.get? b=some o->O b)/\(∀b,H' b≠none->O b)/\Fly O s'.heap ea cls .none/\E cls none H'
theorem Un.fly{fs:List Addr}{L:Addr}{H H':Hp}{h h1 h2:Heap}{O:Addr->Prop}(u:Un fs [] H H' h h1)(k:Kp O (L::fs) h1 h2)(hO:∀b o,h.get? b=some o->O b)(hL:∀o,h.get? L≠some o)(hd:∀b∈fs,∀o,h1.get? b=some o->∀vs,o.data≠.fields vs):Un fs [] H H' h h2 where
 keep:=fun b o e n f x=>k.keep b o (u.keep b o e n f x) (hO b o e) fun z=>by
  rcases List.mem_cons.mp z with z|z
  ·exact hL o (by rw[<- z];exact e)
  ·exact f z
 slot:=fun b o e n f x=>by
  obtain⟨sl,e1⟩:=u.slot b o e n f x
  obtain⟨sl',e2⟩:=k.slot b _ e1 (hd b f _ e1)
  exact⟨sl',e2⟩
 free:=u.free
 there:=fun b o e x=>by
  obtain⟨o1,e1⟩:=u.there b o e x
  by_cases f:b∈fs
  ·obtain⟨sl,e2⟩:=k.slot b _ e1 (hd b f _ e1)
   exact⟨_,e2⟩
  ·exact⟨o1,k.keep b o1 e1 (hO b o e) fun z=>by
    rcases List.mem_cons.mp z with z|z
    ·exact hL o (by rw[<- z];exact e)
    ·exact f z⟩
 rR:=u.rR
 qv:=u.qv
 qr:=u.qr
theorem HOk.fly{P:Program}{w:World}{H:Hp}{h h1:Heap}{O:Addr->Prop}{fs:List Addr}(x:HOk P w H h)(k:Kp O fs h h1)(hO:∀b,H b≠none->O b)(hf:∀b∈fs,H b=none):HOk P w H h1:=fun a o e=>by
 refine (x a o e).xa (fun b u hb q=>?_) (fun _ q=>q) fun _ _ q=>q
 have hb':H b≠none:=by
  rcases hb with rfl|hb
  ·rw[e];exact fun z=>nomatch z
  ·rw[hb];exact fun z=>nomatch z
 exact k.keep b u q (hO b hb') fun z=>hb' (hf b z)
theorem Kj{P:Program}{w:World}{H:Hp}{h:Heap}{a:Addr}{o:HO}(x:iM P w H h a o):∃u,h.get? a=some u:=by
 cases o with
 |lst xs=>obtain⟨_,_,_,_,e⟩:=x;exact⟨_,e⟩
 |tup xs=>obtain⟨_,_,_,_,e,_⟩:=x;exact⟨_,e⟩
 |dK kvs=>obtain⟨_,_,_,_,_,_,_,e,_⟩:=x;exact⟨_,e⟩
 |dT kvs=>obtain⟨_,_,_,_,_,_,_,e,_⟩:=x;exact⟨_,e⟩
 |set S n=>obtain⟨_,_,_,_,e,_⟩:=x;exact⟨_,e⟩
 |ins C dx fs=>obtain⟨_,_,_,e,_⟩:=x;exact⟨_,e⟩
 |own y=>exact x
 |xd fs=>obtain⟨_,⟨_,_,_,e,_⟩,_⟩:=x;exact⟨_,e⟩
 |rng lo hi=>obtain⟨_,_,_,e⟩:=x;exact⟨_,e⟩
 |frz ob u=>obtain⟨e,_⟩:=x;exact⟨_,e⟩
 |tbl ps=>exact⟨_,(show h.get? a=some _ from x)⟩
 |met f y=>exact⟨_,(show h.get? a=some _ from x)⟩
 |raw ob=>exact⟨ob,x⟩
 |ext φ=>obtain⟨_,e,_⟩:=x;exact e
section
variable {X:Cx}{pins:List (Addr×Obj)}{σ:St}{H:Hp}{s:Shared}{O:Addr->Prop}{ea:Addr}{cls:Value}{E:XK}{base:Heap}
structure Frm(X:Cx):Prop where
 stk:X.stack=X.env::X.outer
 fr:X.env.frame=some X.env.locals
 ex:X.ex=[]
theorem uG(hF:Frm X):frs (X.env::X.outer)=X.env.locals::X.fs:=by
 unfold Cx.fs frs
 rw[filterMap_cons,hF.fr]
theorem Eu(I:Inv X pins σ H s):∀b∈X.fs,∀o,s.heap.get? b=some o->∀vs,o.data≠.fields vs:=fun b hb o e vs=>by
 obtain⟨_,o',e',d⟩:=I.se.mem hb
 rw[e] at e'
 rw[Option.some.inj e']
 exact d vs
theorem Ib(I:Inv X pins σ H s):∀o,X.gl.heap.get? X.env.locals≠some o:=fun o e=>absurd (Heap.lt_size e) (Nat.not_lt.mpr I.ok.above)
theorem E1(hF:Frm X)(I:Inv X pins σ H s):∀b∈frs (X.env::X.outer),H b=none:=fun b hb=>by
 rw[uG hF] at hb
 rcases List.mem_cons.mp hb with e|hb
 ·rw[e];exact I.free
 ·exact I.C5 b (by rw[hF.stk,uG hF];exact mem_cons_of_mem _ hb)
theorem vp(hF:Frm X)(I:Inv X pins σ H s):s.heap.FunFrames X.base (X.env::X.outer):=by
 have:=I.stack
 rw[hF.stk] at this
 exact this
theorem Mw(hF:Frm X)(I:Inv X pins σ H s)(hO:∀b o,X.gl.heap.get? b=some o->O b)(ht:∀b,H b≠none->O b){h':Heap}(k:Kp O (frs (X.env::X.outer)) s.heap h')(F:Fly O h' ea cls .none)(q:E cls none H) :
  CX1 X.prog X.w X.outer X.H₀ X.gl E (.ref ea) {s with heap:=h'}:=by
 refine⟨O,ea,cls,H,rfl,I.os,I.bare,?_,HOk.fly I.hok k ht (E1 hF I),hO,ht,F,q⟩
 rw[uG hF] at k
 have u:=I.base
 rw[hF.ex] at u
 exact Un.fly u k hO (Ib I) (Eu I)
theorem leave_new{vs:List Value}{h1:Heap}{Qe:Value->Shared->Prop}(hF:Frm X)(I:Inv X pins σ H s)(hx:Heap.MadeExcOf s.heap h1 ea cls vs)(q:E cls none H) :
  wpAny (model X.prog X.w) X.A (leaving X.env (.ref ea)) (fun _ s''=>CX1 X.prog X.w X.outer X.H₀ X.gl E (.ref ea) s'') Qe {s with heap:=h1}:=by
 obtain⟨t,he,_,_⟩:=hx.there
 have I1:Inv X pins σ H {s with heap:=h1}:=I.kept (t':=s.toks) hx.keeps
 have fr:X.A.frames=some (X.env::X.outer):=by rw[<- hF.stk];exact I.ok.frames
 have kp:Kp (fun b=>∃o,s.heap.get? b=some o) (frs (X.env::X.outer)) s.heap h1:=.of hx.keeps
 refine E5 (O:=fun b=>∃o,s.heap.get? b=some o) (s:={s with heap:=h1}) fr (vp hF I1) hF.fr he rfl rfl rfl rfl (fun b ⟨o,e⟩=>Heap.lt_size (hx.keeps b o e)) (fun ⟨o,e⟩=>by rw[hx.new] at e;cases e) fun h' k F=>?_
 have e:=Mw (s:=s) (X:=X) hF I (fun b o e=>I.base.there b o e (by rw[hF.ex];exact fun z=>nomatch z)) (fun b hb=>by
  cases z:H b with
  |none=>exact absurd z hb
  |some o=>exact Kj (I.hok b o z)) (kp.trans k) F q
 exact e
end
structure XOk(X:Cx)(E:XK):Prop where
 new:∀(pins:List (Addr×Obj)) (σ:St) (H:Hp) (s:Shared) (ea:Addr) (cls:Value) (vs:List Value) (h1:Heap),Inv X pins σ H s->Heap.MadeExcOf s.heap h1 ea cls vs->E cls none H->X.xe (.ref ea) {s with heap:=h1}
 pas:Passes (CX1 X.prog X.w) X E
theorem Bt{X:Cx}{pins:List (Addr×Obj)}{σ:St}{H:Hp}{s s':Shared}{E:XK}{e:Value}{Qe:Value->Shared->Prop}(hF:Frm X)(I:Inv X pins σ H s)(h:CX1 X.prog X.w X.stack H s E e s') :
  wpAny (model X.prog X.w) X.A (leaving X.env e) (fun _ s''=>CX1 X.prog X.w X.outer X.H₀ X.gl E e s'') Qe s':=by
 obtain⟨O,ea,cls,H',rfl,os,bare,un,hok,hO,ht,F,q⟩:=h
 have I':Inv X pins σ H' s':=I.II (ch:=[]) os un hok bare (fun b z=>nomatch z)
 have fr:X.A.frames=some (X.env::X.outer):=by rw[<- hF.stk];exact I.ok.frames
 refine Hg (s:=s') fr (vp hF I') hF.fr F fun h' k F'=>?_
 exact Mw (s:=s') hF I' (fun b o e=>by
  obtain⟨o',e'⟩:=I.base.there b o e (by rw[hF.ex];exact fun z=>nomatch z)
  exact hO b o' e') ht k F' q
theorem Oi{P:Program}{w:World}{K:PySem.W.Frag}{mg:Str->Option Value}{base:Heap}{N:List Str}{qual:Str}{scope:Scope}{f:Addr}{cd:Value}{A:Around}{outer:List Env}{s:Shared}{H:Hp}{E:XK} :
  XOk (kL (CX1 P w) P w K mg base N qual scope f cd A outer s H E) E where
 new:=fun pins σ H1 s1 ea cls vs h1 I hx q=>leave_new (X:=kL (CX1 P w) P w K mg base N qual scope f cd A outer s H E) ⟨rfl,rfl,rfl⟩ I hx q
 pas:=fun pins σ H1 s1 e s' I h=>Bt (X:=kL (CX1 P w) P w K mg base N qual scope f cd A outer s H E) ⟨rfl,rfl,rfl⟩ I h
noncomputable abbrev DTX:=Rho->Mu->(Mu->Prop)->Prop
noncomputable abbrev XSp:=List D->Mu->(Mu->Prop)->Prop
noncomputable def G9(K:PySem.W.Frag)(E:XK)(C:Value)(U:Mu)(H:Hp)(Xk:Mu->Prop):Prop:=∀Z H',Ext K U H Z H'->bC K Z H'->Xk Z->E C none H'
theorem G9.on{K:PySem.W.Frag}{E:XK}{C:Value}{U ad:Mu}{H H1:Hp}{Xk:Mu->Prop}(w:G9 K E C U H Xk)(e:Ext K U H ad H1):G9 K E C ad H1 Xk:=fun Z H' e'=>w Z H' (e.trans e')
noncomputable def XE(X:Cx)(E:XK)(C:Value)(e:Expr)(tx:DTX):Prop:=∃t:TE,PE X e t/\∀σ H ρ U Xk Q,St0 X.K H ρ U σ->tx ρ U Xk->G9 X.K E C U H Xk->t σ H Q
noncomputable def XS(X:Cx)(E:XK)(C:Value)(st:Stmt)(tx:DTX):Prop:=∃t:TS,PS X st t/\∀σ H ρ U Xk D,St0 X.K H ρ U σ->tx ρ U Xk->G9 X.K E C U H Xk->t D σ H
noncomputable def XSs(X:Cx)(E:XK)(C:Value)(st:List Stmt)(tx:DTX):Prop:=∃t:TS,PSs X st t/\∀σ H ρ U Xk D,St0 X.K H ρ U σ->tx ρ U Xk->G9 X.K E C U H Xk->t D σ H
noncomputable def spX(K:PySem.W.Frag)(C:Value)(dsp:XSp):Sp:=fun vs H _ E=>∃(ds:List D) (U:Mu) (Xk:Mu->Prop),bC K U H/\jO K U H ds vs/\dsp ds U Xk/\G9 K E C U H Xk
section
variable {X:Cx}{E:XK}{C:Value}{e:Expr}{es:List Expr}{t:DTA}{te:DTE}{tx ty:DTX}{p pos:Pos}{x:Str}{k:Nat}{f:Addr}{fd:FuncData}{ps:List Str}{dsp:XSp}{st:Stmt}{sts:List Stmt}
noncomputable def Lz(dsp:XSp)(t:DTA):DTX:=fun ρ U Xk=>t ρ U fun ds ad=>dsp ds ad Xk
theorem O0(F:iY X.prog X.w X.K X.mg X.base (CX1 X.prog X.w) k f fd ps (spX X.K C dsp))(hr:fJ k X.A)(hg:Gl X x)(hm:X.mg x=some (.ref f))(hk:keepIn X.K (.ref f)=true)(hb:Binds X.K fd ps [])(hx:XOk X E)
  (ha:DA X (e::es) t) (hdb:(x==("__debug__":Str))=false:=by decide) (he:starEach (e::es) X.env=(false,eval e X.env)::starEach es X.env:=by rfl) (hpl:(backTo pos (starEach es X.env)).any (·.1)=false:=by rfl) :
  XE X E C (.Call (.Name x p) (e::es) [] pos) (Lz dsp t):=by
 obtain⟨t1,p1,l1⟩:=ha
 refine⟨_,Jd F hr hg hm hk hb .nil hx.pas p1 hdb he hpl,fun σ H ρ U Xk Q S h wsh=>?_⟩
 refine l1 σ H ρ U _ _ S h fun ds us ad H1 e1 S1 rs len h1=>?_
 exact⟨ds,ad,Xk,S1.mu,by rw[append_nil];exact rs,h1,wsh.on e1⟩
noncomputable def M5:DTX:=fun _ _ _=>False
theorem Kv:XSs X E C sts M5:=⟨_,BI,fun _ _ _ _ _ _ _ h _=>h.elim⟩
noncomputable def xIf(tc:DTT)(tx ty:DTX):DTX:=fun ρ U Xk=>tc ρ U fun b ad=>if b=true then tx ρ ad Xk else ty ρ ad Xk
theorem Ug{c:Expr}{a b:List Stmt}{tc:DTT}(hc:DT X c tc)(ha:XSs X E C a tx)(hb:XSs X E C b ty):XS X E C (.If c a b pos) (xIf tc tx ty):=by
 obtain⟨t0,p0,l0⟩:=hc
 obtain⟨t1,p1,l1⟩:=ha
 obtain⟨t2,p2,l2⟩:=hb
 refine⟨_,PZ p0 p1 p2,fun σ H ρ U Xk D S h wsh=>?_⟩
 refine l0 σ H ρ U _ _ S h fun c ad H1 e1 S1 h1=>?_
 cases c with
 |true=>exact HA (l1 σ H1 ρ ad Xk D S1 (by simpa using h1) (wsh.on e1))
 |false=>exact GW (l2 σ H1 ρ ad Xk D S1 (by simpa using h1) (wsh.on e1))
theorem GG(h:XS X E C st tx):XSs X E C (st::sts) tx:=by
 obtain⟨t1,p1,l1⟩:=h
 exact⟨_,yN p1 BI,fun σ H ρ U Xk D S h wsh=>l1 σ H ρ U Xk _ S h wsh⟩
noncomputable def Fz(td:DTS)(tx:DTX):DTX:=fun ρ U Xk=>td {nx:=fun ce Z=>tx ce Z Xk,rt:=fun _ _=>False} ρ U
theorem mf{td:DTS}(h:DS X st td)(hr:XSs X E C sts tx):XSs X E C (st::sts) (Fz td tx):=by
 obtain⟨t1,p1,l1⟩:=h
 obtain⟨t2,p2,l2⟩:=hr
 refine⟨_,yN p1 p2,fun σ H ρ U Xk D S h wsh=>?_⟩
 refine l1 σ H ρ U _ _ S h (fun bn ce Z H' e' S' q=>?_) (fun d u Z H' e' ok r q=>q.elim) (fun bn ce Z H' e' S' q=>q.elim) (fun bn ce Z H' e' S' q=>q.elim)
 exact l2 bn H' ce Z Xk D S' q (wsh.on e')
end
theorem _root_.L2.Fun.okX{P:Program}{w:World}{K:PySem.W.Frag}{mg:Str->Option Value}{base:Heap}{x qual:Str}{st:Stmt}{f:Addr}{fd:FuncData}{N ps:List Str}{k:Nat}{C:Value}{dsp:XSp}(F:Fun K x qual st f fd)(S:aE N ps (aw st))(len:∀ds U Xk,dsp ds U Xk->ds.length=ps.length)
  (hbody:∀(cdv:Value) (A:Around) (outer:List Env) (s:Shared) (H:Hp) (E:XK),fJ k (A.deeper (envOfC qual (aw st) s.heap.objs.size f cdv)) ->
   ∃tx,XSs (kL (CX1 P w) P w K mg base N qual (aw st) f cdv A outer s H E) E C (dH st) tx/\∀ds U Xk,dsp ds U Xk->tx (aK N ds) U Xk):iY P w K mg base (CX1 P w) (k+1) f fd ps (spX K C dsp):=by
 obtain⟨oc,od,kV,doc,pm,an,cdv,ct,osl,rfl,lk,hcd⟩:=F.ex
 refine Ni lk hcd S (fun vs H Q E h=>?_) fun A outer s H vs Q E hr hsp=>?_
 ·obtain⟨ds,U,Xk,_,r,h,_⟩:=h
  rw[<- r.length];exact len ds U Xk h
 ·obtain⟨tx,⟨t,p,l⟩,q⟩:=hbody cdv A outer s H E hr
  obtain⟨ds,U,Xk,ok,r,h,wsh⟩:=hsp
  exact⟨t,p,l (start N vs) H (aK N ds) U Xk _ ⟨ok,vh r⟩ (q ds U Xk h) wsh⟩
theorem OB{K:PySem.W.Frag}{h:Heap}{C:Addr}{bmB:List Value}{newId:String}(X:K.In h)(q:excIn K C bmB newId=true) :
  ∃bm N nm q bs hdct sn sub ab col dd k0 k1 k2 k3 k5 mN,h.get? C=some (excClassObj nm q C N bs bm hdct sn sub ab col dd k0 k1 k2 k3 k5 newId)/\h.Ns N mN/\mN "__init__"=none/\OwnTail h bmB bm:=by
 unfold excIn at q
 split at q;rotate_left;· cases q
 rename_i dd cd sl ho;split at q;rotate_left;· cases q
 rename_i C' bm k0 k1 k2 k3 n k5 hm hs
 simp only[and_eq_true,beq_iff_eq,Bool.not_eq_true'] at q;obtain⟨⟨⟨⟨⟨rfl,rfl⟩,hdel⟩,ht⟩,hok⟩,hni⟩:=q
 obtain⟨nm,bs,mro,ns,qn,hd,sn,sub,ab,col,del⟩:=cd;dsimp only at hm hdel hok hni;subst hm hdel
 obtain rfl:sl = #[k0,k1,k2,k3,some (.builtin n),k5]:=by obtain⟨l⟩:=sl;exact congrArg Array.mk hs
 exact⟨bm,ns,nm,qn,bs,hd,sn,sub,ab,col,dd,k0,k1,k2,k3,k5,_,X _ _ ho,.of_isNs (PySem.W.isNs_of_in X hok),PySem.W.nsMap_none_of_in X hok hni,PySem.W.tail_of_in X ht⟩
section
variable {X:Cx}{E:XK}{x:Str}{C:Addr}
theorem Nd{txt:Str}{j}{np kp cpos pos:Pos}(hx:XOk X E)(hg:Gl X x)(hm:X.mg x=some (.ref C))(hq:excIn X.K C bmV "ValueError.__new__"=true)(hc:X.calm=true:=by rfl)(hdb:(x==("__debug__":Str))=false:=by decide)
  (hs:starEach [.Constant (.str txt) j kp] X.env=[(false,eval (.Constant (.str txt) j kp) X.env)]:=by rfl) :
  XS X E (.ref C) (.Raise (some (.Call (.Name x np) [.Constant (.str txt) j kp] [] cpos)) none pos) (fun _ U Xk=>Xk U):=by
 refine⟨fun D σ H=>E (.ref C) none H,fun pins s σ H D I h=>?_,fun σ H ρ U Xk D S h wsh=>wsh U H .refl S.mu h⟩
 obtain⟨tl,N,nm,q,bs,hdct,sn,sub,ab,col,dd,k0,k1,k2,k3,k5,mN,hC,hN,hni,T⟩:=OB I.mod.kin hq
 refine wpAny_Raise_call_subT (C:=C) (nm:=nm) (q:=q) (N:=N) (bs:=bs) (bm:=tl) (hdct:=hdct) (sn:=sn) (sub:=sub) (ab:=ab) (col:=col) (dd:=dd) (k0:=k0) (k1:=k1) (k2:=k2) (k3:=k3) (k5:=k5)
  PySem.F.excBase_ValueError (mN:=mN) (T.hasType PySem.F.excBase_ValueError.hasBase) (I.ok.hd hc) (by rw[hs];rfl) hni (tI I hg hm ⟨rfl,?_⟩ hdb)
 have pa:=eY (X:=X) (es:=[]) (Nr (x:=txt) (j:=j) (pos:=kp)) pB (by rw[hs];rfl) cpos pins s σ H (fun vs H1=>vs.length=1/\H1=H) I ⟨rfl,rfl⟩
 rw[hs] at pa ⊢
 refine Calls.evalArgs_plain (thn pa fun us s2 hq0=>?_)
 obtain⟨vs,H1,I1,r,l,e1⟩:=hq0
 subst e1
 exact⟨rfl,by rw[<- r.length,l];decide,I1.bk _ _ hC,hN.keeps I1.bk,T.keeps I1.bk,fun h' e hm'=>hx.new pins σ H1 s2 e _ _ h' I1 hm' h⟩
end
structure xK(K:PySem.W.Frag)(C:Addr):Prop where
 ga:findIn K (.ref C) "__getattribute__"=some (some (.builtin "BaseException.__getattribute__"))
 gx:findIn K (.ref C) "__getattr__"=some none
 cl:findIn K (.ref C) "__class__"=some (some (.builtin "object.__class__"))
 ob:mroIn K C (.type "object")=some true
 be:mroIn K C (.type "BaseException")=some true
 ci:(clsIn K C).isSome=true
section
variable {prog:Program}{w:World}{A:Around}{E:Value->Shared->Prop}{h:Heap}{g:Array GenState}{d:Drawn}{t:Nat}{os:OsState}{a C:Addr}{o:Obj}{K:PySem.W.Frag}
theorem Ob{R:Result->Shared->Prop}(X:K.In h)(ZZ:xK K C)(hx:h.get? a=some o)(hc:o.cls = .ref C)(hq:R (.ok (.ret (.ref C))) ⟨h,g,d,t,os⟩) :
  codeAny (model prog w) A (.call (.builtin "getset_descriptor.__get__") ⟨[.builtin "object.__class__",.ref a,.ref C],[]⟩) R ⟨h,g,d,t,os⟩:=by
 have hT5:(⟨h,g,d,t,os⟩:Shared).TypeIs (.builtin "object.__class__") "getset_descriptor":=F.typeOf_object_class
 have sub:∀{A':Around} {Q':Bool->Shared->Prop} {E':Value->Shared->Prop} {g' d' t' os'},Q' true ⟨h,g',d',t',os'⟩->wpAny (model prog w) A' (isSubtype (.ref C) (.type (".".intercalate ("object.__class__".cutAt '.').dropLast))) Q' E' ⟨h,g',d',t',os'⟩:=fun q=>by
  rw[F.owner_object_class];exact (PySem.W.looks_mroIn X ZZ.ob).here q
 refine codeAny_call_builtin F.slot_gs_get.plain F.entry_gs_get (F.slot_gs_get.check _ _ _ _ _ _ _ _ hT5 (F.args_gs_get _ _ _) ?_)
 repeat (any_goals (first|assumption|(with_reducible refine wpAny_loadPart_at hx ?_;rw[hc])|with_reducible refine sub ?_|wp_step))
 refine⟨Code.quiet_builtin _ nofun,codeAny_builtin F.entry_object_class ?_⟩
 repeat (any_goals (first|assumption|(with_reducible refine wpAny_loadPart_at hx ?_;rw[hc])|wp_step))
theorem K5{tk:Tok}{Q:Fin->Shared->Prop}(X:K.In h)(ZZ:xK K C)(hx:h.get? a=some o)(hc:o.cls = .ref C)(hq:Q (.done (.ret (.ref C))) ⟨h,g,d,t,os⟩) :
  wpAny (model prog w) A (Builtin.«object.__getattribute__» ⟨[.ref a,.str "__class__" tk],[]⟩) Q E ⟨h,g,d,t,os⟩:=by
 have hT5:(⟨h,g,d,t,os⟩:Shared).TypeIs (.builtin "object.__class__") "getset_descriptor":=F.typeOf_object_class
 have f5:=F.typeOf_object_class;have f6:=F.slot_gs_get.lookup;have f7:=F.slot_gs_set.lookup
 have lk:∀{A':Around} {Q':Option Value->Shared->Prop} {E':Value->Shared->Prop} {g' d' t' os'},Q' (some (.builtin "object.__class__")) ⟨h,g',d',t',os'⟩->wpAny (model prog w) A' (typeLookup (.ref C) "__class__") Q' E' ⟨h,g',d',t',os'⟩:=fun q=>(PySem.W.looks_findIn X ZZ.cl).here q
 repeat (any_goals (first|assumption|(with_reducible refine wpAny_loadPart_at hx ?_;rw[hc])|with_reducible refine lk ?_|wp_step))
 refine Ob X ZZ hx hc ?_
 repeat (any_goals (first|assumption|wp_step))
theorem K1{nv:Value}{Q:Unit->Shared->Prop}(X:K.In h)(ZZ:xK K C)(hx:h.get? a=some o)(hc:o.cls = .ref C)(hq:Q () ⟨h,g,d,t,os⟩):wpAny (model prog w) A (checkBuiltinCall "BaseException.__getattribute__" ⟨[.ref a,nv],[]⟩) Q E ⟨h,g,d,t,os⟩:=by
 have hk:builtinKind "BaseException.__getattribute__"=some .slot:=nofun
 have hsp:splitId "BaseException.__getattribute__"=some ("BaseException","__getattribute__"):=nofun
 have ha:=F.args_bexc_ga (.ref a) nv
 have sub:∀{A':Around} {Q':Bool->Shared->Prop} {E':Value->Shared->Prop} {g' d' t' os'},Q' true ⟨h,g',d',t',os'⟩->wpAny (model prog w) A' (isSubtype (.ref C) (.type "BaseException")) Q' E' ⟨h,g',d',t',os'⟩:=fun q=>(PySem.W.looks_mroIn X ZZ.be).here q
 simp only[checkBuiltinCall,hk,hsp]
 refine wpAny_bind ?_
 unfold isInstance
 repeat (first|(with_reducible refine wpAny_loadPart_at hx ?_;rw[hc])|with_reducible refine sub ?_|wp_step)
 exact hq
theorem MQ{tk:Tok}{R:Result->Shared->Prop}(X:K.In h)(ZZ:xK K C)(hx:h.get? a=some o)(hc:o.cls = .ref C)(hq:R (.ok (.ret (.ref C))) ⟨h,g,d,t,os⟩) :
  codeAny (model prog w) A (.call (.builtin "BaseException.__getattribute__") ⟨[.ref a,.str "__class__" tk],[]⟩) R ⟨h,g,d,t,os⟩:=
 codeAny_call_builtin F.attr_ValueError.ga.plain F.entry_bexc_ga (K1 X ZZ hx hc (K5 X ZZ hx hc hq))
theorem Rj{tk:Tok}{Q:Value->Shared->Prop}(X:K.In h)(ZZ:xK K C)(hx:h.get? a=some o)(hc:o.cls = .ref C)(hq:Q (.ref C) ⟨h,g,d,t,os⟩):wpAny (model prog w) A (getAttrBy (.ref a) (.str "__class__" tk) false) Q E ⟨h,g,d,t,os⟩:=by
 have f3:=F.attr_ValueError.ga.bind (.ref a)
 have hx2:(Value.builtin "BaseException.__getattribute__"==Value.builtin "object.__getattribute__")=false:=nofun
 have hx1:(onTheHeap (Value.ref C)&&Value.builtin "BaseException.__getattribute__"==Value.builtin "object.__getattribute__")=false:=by rw[hx2];rfl
 have lk:∀{A':Around} {Q':Option Value->Shared->Prop} {E':Value->Shared->Prop} {g' d' t' os'},Q' (some (.builtin "BaseException.__getattribute__")) ⟨h,g',d',t',os'⟩->wpAny (model prog w) A' (typeLookup (.ref C) "__getattribute__") Q' E' ⟨h,g',d',t',os'⟩:=fun q=>(PySem.W.looks_findIn X ZZ.ga).here q
 have lx:∀{A':Around} {Q':Option Value->Shared->Prop} {E':Value->Shared->Prop} {g' d' t' os'},Q' none ⟨h,g',d',t',os'⟩->wpAny (model prog w) A' (typeLookup (.ref C) "__getattr__") Q' E' ⟨h,g',d',t',os'⟩:=fun q=>(PySem.W.looks_findIn X ZZ.gx).here q
 repeat (any_goals (first|assumption|(with_reducible refine wpAny_loadPart_at hx ?_;rw[hc])|with_reducible refine lk ?_|with_reducible refine lx ?_|wp_step))
 refine MQ X ZZ hx hc ?_
 repeat (any_goals (first|assumption|wp_step))
theorem Nc{Q:Option Value->Shared->Prop}(X:K.In h)(ZZ:xK K C)(hx:h.get? a=some o)(hc:o.cls = .ref C)(hq:Q (some (.ref C)) ⟨h,g,d,t+1,os⟩):wpAny (model prog w) A (getAttr? (.ref a) "__class__") Q E ⟨h,g,d,t,os⟩:=by
 unfold getAttr? getAttrBy?
 repeat (any_goals (first|assumption|with_reducible apply Rj X ZZ hx hc|wp_step))
theorem Nv(ZZ:xK K C):PySem.W.KitX K (.ref a) (.ref C) (fun h=>∃o,h.get? a=some o/\o.cls = .ref C) where
 ty:=fun M h X ⟨o,e,c⟩=>by
  intro A' Q' E' s' k q
  unfold typeOf
  refine wpAny_bind (wpAny_loadPart (k _ _ e) ?_)
  rw[c]
  exact wpAny_pure q
 it:=fun M h X _=>by
  have z:=ZZ.ci
  unfold clsIn at z
  split at z
  ·rename_i ho
   intro A' Q' E' s' k q
   unfold isType loadHead
   exact wpAny_bind (wpAny_loadPart (k _ _ (X _ _ ho)) (wpAny_pure q))
  ·cases z
 ne:=fun h tp dd its n sl X htp=>by
  refine Bool.eq_false_iff.mpr fun q=>?_
  obtain rfl:C=tp:=Value.ref.inj (beq_iff_eq.mp q)
  have z:=ZZ.ci
  unfold clsIn at z
  split at z
  ·rename_i ho;have z':=(X _ _ ho).symm.trans htp;cases z'
  ·cases z
 ca:=fun {_ _ _ _ _ s} X ⟨o,e,c⟩ k=>by obtain⟨h,g,d,t,os⟩:=s;exact Nc X ZZ e c k
end
theorem OF{K:PySem.W.Frag}{h:Heap}{c P:Addr}{o:Obj}{q:Str}(X:K.In h)(l:K.lookup c=some o)(e:bJ o=some (P,q))(ne:c≠P):PySem.W.CodeHd h c P:=by
 have ho:=X _ _ l
 unfold bJ at e
 split at e
 ·rename_i cn vs hcls hd
  split at e
  ·rename_i hcn
   subst hcn
   split at e
   ·rename_i q' t' f1 f2 f3 f4 f5 f6 P' f7 f8 e1 e7 e9 e10 e11 e18
    split at e
    ·cases e
     refine⟨o,vs,f7,f8,f2,f3,f4,f5,f6,ho,hcls,hd,e11,?_,?_,?_,?_,?_,ne⟩
     ·rw[Array.getD_eq_getD_getElem?,e11];rfl
     ·rw[Array.getD_eq_getD_getElem?,e18];rfl
     ·rw[Array.getD_eq_getD_getElem?,e7];rfl
     ·rw[Array.getD_eq_getD_getElem?,e9];rfl
     ·rw[Array.getD_eq_getD_getElem?,e10];rfl
    ·cases e
   ·cases e
  ·cases e
 ·cases e
noncomputable def Rh(K:PySem.W.Frag)(mg:Str->Option Value):Prop:=∃bm ob,mg "__builtins__"=some (.ref bm)/\bm≠builtinsNs/\K.lookup bm=some ob/\ob.cls = .type "module"/\ob.dict=some builtinsNs/\ob.data = .plain
theorem KU{pos:Pos}{w:Value}{l3:List Value}:∀{l:List Value},TriplesOk l->codeAmong pos l=some w->codeAmong pos (l++l3)=some w:=by
 intro l
 fun_induction TriplesOk l with
 |case1=>intro _ e;simp[codeAmong] at e
 |case2 a t b u x rest ih=>
  intro h e
  simp only[cons_append,codeAmong] at e ⊢
  split at e
  ·rename_i hc;rw[if_pos hc];exact e
  ·rename_i hc;rw[if_neg hc];exact ih h e
 |case3 l h1 h2=>intro h;exact h.elim
theorem J3{pos lpos:Pos}{cv:Value}{c:Value}:∀{l:List Value},TriplesOk l->codeAmong pos l=none->codeAmong pos (l++[rawInt lpos.line,rawInt lpos.col,c])=some cv->cv=c:=by
 intro l
 fun_induction TriplesOk l with
 |case1=>
  intro _ _ e
  simp only[nil_append,codeAmong,rawInt] at e
  split at e
  ·exact (Option.some.inj e).symm
  ·cases e
 |case2 a t b u x rest ih=>
  intro h n e
  simp only[cons_append,codeAmong] at n e
  split at n
  ·cases n
  ·rename_i hc;rw[if_neg hc] at e;exact ih h n e
 |case3 l h1 h2=>intro h;exact h.elim
section
variable {X:Cx}{pins:List (Addr×Obj)}{σ:St}{H:Hp}{s:Shared}
theorem Ko{P c':Addr}{ps:Array Value}{l3:List Value}{h':Heap}{tk:Nat}{φ:Heap->Prop}(I:Inv X pins σ H s)(hP:H P=some (.tbl ps))(hx:Heap.ExtBut P s.heap h')(ht:h'.get? P=some (tabObj (ps++l3.toArray)))(hc:s.heap.objs.size<=c')(Ch:φ h')(hc':∃o,h'.get? c'=some o)(hst:∀h1 h2:Heap,φ h1->(∀o,h1.get? c'=some o->h2.get? c'=some o)->φ h2) :
  Inv X pins σ (upd (upd H P (.tbl (ps++l3.toArray))) c' (.ext φ)) {s with heap:=h',toks:=tk}:=by
 have fc:H c'=none:=I.hok.fresh hc
 have nPc:P≠c':=aI hP fc
 have low:∀b o,s.heap.get? b=some o->b≠c':=fun b o e z=>absurd (Heap.lt_size e) (by rw[z];exact Nat.not_lt.mpr hc)
 have old:∀b,b≠P->b≠c'->upd (upd H P (.tbl (ps++l3.toArray))) c' (.ext φ) b=H b:=fun b h1 h2=>by rw[aP h2,aP h1]
 have atP:upd (upd H P (.tbl (ps++l3.toArray))) c' (.ext φ) P=some (.tbl (ps++l3.toArray)):=by rw[aP nPc];exact bS
 refine I.un (t':=tk) ⟨fun b o e n _ _=>hx b o (fun z=>by rw[z,hP] at n;cases n) e,fun b o e n _ _=>⟨o.slots,hx b o (fun z=>by rw[z,hP] at n;cases n) e⟩,fun b o e n _=>?_,fun b o e _=>?_,fun b xs e=>?_,fun b o u e=>?_,fun b qs e=>?_⟩ fun b o e=>?_
 ·rw[old b (fun z=>by rw[z,hP] at n;cases n) (low b o e)];exact n
 ·by_cases z:b=P
  ·exact⟨_,by rw[z];exact ht⟩
  ·exact⟨o,hx b o z e⟩
 ·rw[old b (fun z=>by rw[z,hP] at e;cases e) (aI e fc)];exact e
 ·rw[old b (fun z=>by rw[z,hP] at e;cases e) (aI e fc)];exact e
 ·by_cases z:b=P
  ·rw[z] at e;rw[hP] at e;cases e
   exact⟨l3.toArray,by rw[z];exact atP⟩
  ·exact⟨#[],by rw[old b z (aI e fc)];simpa using e⟩
 ·by_cases zc:b=c'
  ·subst zc
   rw[bS] at e;cases e
   exact⟨Ch,hc',hst⟩
  ·by_cases z:b=P
   ·subst z
    rw[atP] at e;cases e
    exact ht
   ·rw[old b z zc] at e
    refine (I.hok b o e).xa (fun d u hd q=>hx d u ?_ q) (fun d q=>?_) fun d xs q=>?_
    ·rcases hd with rfl|hd
     ·exact z
     ·exact fun y=>by rw[y,hP] at hd;cases hd
    ·rw[old d (fun y=>by rw[y,hP] at q;cases q) (aI q fc)];exact q
    ·rw[old d (fun y=>by rw[y,hP] at q;cases q) (aI q fc)];exact q
theorem MN{K:PySem.W.Frag}{P c':Addr}{ps:Array Value}{q:Str}{lpos:Pos}(t:Ar K H)(hP:H P=some (.tbl ps))(htr:TriplesOk ps.toList)(hcs:∀pos cv,codeAmong pos ps.toList=some cv->∃c,cv = .ref c/\H c=some (.ext (codeAt c (cj q))))(hf:codeAmong lpos ps.toList=none)(fc:H c'=none)
  (hu:∀c2 o2 q2,K.lookup c2=some o2->bJ o2=some (P,q2)->q2=q) :
  Ar K (upd (upd H P (.tbl (ps++[rawInt lpos.line,rawInt lpos.col,.ref c'].toArray))) c' (.ext (codeAt c' (cj q)))):=fun c2 o2 P2 q2 l2 e2=>by
 have nPc:P≠c':=aI hP fc
 have old:∀b,b≠P->b≠c'->upd (upd H P (.tbl (ps++[rawInt lpos.line,rawInt lpos.col,.ref c'].toArray))) c' (.ext (codeAt c' (cj q))) b=H b:=fun b h1 h2=>by rw[aP h2,aP h1]
 have cold:∀c qq,H c=some (.ext (codeAt c qq))->upd (upd H P (.tbl (ps++[rawInt lpos.line,rawInt lpos.col,.ref c'].toArray))) c' (.ext (codeAt c' (cj q))) c=some (.ext (codeAt c qq)):=fun c qq h=>by rw[old c (fun z=>by rw[z,hP] at h;cases h) (aI h fc)];exact h
 by_cases z:P2=P
 ·subst z
  obtain rfl:=hu c2 o2 q2 l2 e2
  refine⟨_,by rw[aP nPc];exact bS,by rw[Array.toList_append];exact TriplesOk_snoc _ _ _ _ htr,fun pos cv e=>?_⟩
  rw[Array.toList_append] at e
  cases hp:codeAmong pos ps.toList with
  |some w=>
   obtain⟨c,hw,hc⟩:=hcs pos w hp
   have:codeAmong pos (ps.toList++[rawInt lpos.line,rawInt lpos.col,.ref c'])=some w:=KU htr hp
   have e':some w=some cv:=this.symm.trans e
   cases e'
   exact⟨c,hw,cold c _ hc⟩
  |none=>
   have:=J3 htr hp (show codeAmong pos (ps.toList++[rawInt lpos.line,rawInt lpos.col,.ref c'])=some cv from e)
   exact⟨c',this,bS⟩
 ·obtain⟨qs,a1,a2,a3⟩:=t c2 o2 P2 q2 l2 e2
  exact⟨qs,by rw[old P2 z (aI a1 fc)];exact a1,a2,fun pos cv e=>let ⟨c,w1,w2⟩:=a3 pos cv e;⟨c,w1,cold c _ w2⟩⟩
theorem QR{U:Mu}{params:Arguments}{body:Expr}{lsc:Scope}{lpos:Pos}{cl:List (Str×Addr)}{c P:Addr}{o:Obj}{q:Str}{Qd:Value->Shared->Prop}(I:Inv X pins σ H s)(ok:bC X.K U H)(hcode:X.env.code = .ref c)(hl:X.K.lookup c=some o)
  (hlc:bJ o=some (P,q)) (hu:∀c2 o2 q2,X.K.lookup c2=some o2->bJ o2=some (P,q2)->q2=q) (hq:X.env.qual=q ++ ".<locals>.") (hB:Rh X.K X.mg) (hcl:closureFor lsc X.env=pure cl) (hdef:defaultsOf params X.env=([],[]))
  (k:∀(fa c1:Addr) (ctv pm:Value) (H1:Hp) (s1:Shared),Inv X pins σ H1 s1->Ext X.K U H U H1->bC X.K U H1->s1.heap.get? fa=some {cls:=.type "function",data:=.func (kla_fn "<lambda>" (cj q) params body lsc cl pm (.ref c1) ctv)}->H1 fa=none->fa ∉ frs X.stack->H1 c1=some (.ext (codeAt c1 (cj q)))->Qd (.ref fa) s1) :
  wpAny (model X.prog X.w) X.A (eval (.Lambda params body lsc lpos) X.env) Qd X.xe s:=by
 refine PySem.W.kla_eval hdef ?_
 rw[hq]
 obtain⟨ps,hP,htr,hcs⟩:=ok.tab c o P q hl hlc
 have getP:s.heap.get? P=some (tabObj ps):=I.hok P _ hP
 have nK:∀b ob,X.K.lookup b=some ob->b≠P:=fun b ob e z=>by
  have:=(I.bs b ob (I.mod.kin b ob e)).2
  rw[z,hP] at this;cases this
 have C:=OF I.kIn hl hlc (nK c o hl)
 have hg:s.heap.Ns mainGlobals X.mg:=I.mod.glob.keeps I.bk
 have hgP:mainGlobals≠P:=fun z=>by
  obtain⟨og,es,ep,e,d,_⟩:=hg
  rw[z,getP] at e;cases e;cases d
 have hb:s.heap.BuiltinsAt X.mg P:=by
  obtain⟨bm,ob,b1,b2,b3,b4,b5,b6⟩:=hB
  refine⟨bm,ob,b1,b2,fun z=>?_,nK bm ob b3,I.kIn _ _ b3,b4,b5,b6⟩
  obtain⟨og,es,ep,e,d,_⟩:=hg
  rw[<- z,I.kIn _ _ b3] at e;cases e;rw[b6] at d;cases d
 have stk:∀b,s.heap.objs.size<=b->b ∉ frs X.stack:=fun b hb hm=>by
  obtain⟨_,ob,e,_⟩:=I.stack.mem hm
  exact absurd (Heap.lt_size e) (Nat.not_lt.mpr hb)
 cases hf:codeAmong lpos ps.toList with
 |some cv=>
  obtain⟨c1,rfl,hc1⟩:=hcs lpos cv hf
  refine PySem.W.kla_makeFunctionHit hcl I.ok.glob hg hcode C getP htr hf hb fun ctv h' tk hk hsz=>?_
  have I2:Inv X pins σ H {s with heap:=h'.push {cls:=.type "function",data:=.func (kla_fn "<lambda>" (cj q) params body lsc cl ((X.mg "__name__").getD .none) (.ref c1) ctv)},toks:=tk}:=I.kept (t':=tk) fun b u e=>Heap.get?_push_of_some _ (hk b u e)
  exact k h'.objs.size c1 ctv _ H _ I2 .refl ok (Heap.get?_push_size _ rfl) (I.hok.fresh hsz) (stk _ hsz) hc1
 |none=>
  refine PySem.W.kla_makeFunction hcl I.ok.glob hg hcode C getP htr hf hgP hb fun c' ctv h' tk hx hge hlt hrec htb=>?_
  have hca:codeAt c' (cj q) h':=by
   obtain⟨c2,oc,vs,t,e2,g2,d2,v2⟩:=hrec
   cases e2
   exact⟨oc,vs,t,g2,d2,v2⟩
  have fc:H c'=none:=I.hok.fresh hge
  have I1:Inv X pins σ (upd (upd H P (.tbl (ps++[rawInt lpos.line,rawInt lpos.col,.ref c'].toArray))) c' (.ext (codeAt c' (cj q)))) {s with heap:=h',toks:=tk}:=Ko (φ:=codeAt c' (cj q)) I hP hx htb hge hca (let ⟨oc,_,_,g2,_⟩:=hca;⟨oc,g2⟩) (fun h1 h2 ⟨oc,vs,t,g2,d2,v2⟩ kk=>⟨oc,vs,t,kk _ g2,d2,v2⟩)
  have I2:Inv X pins σ (upd (upd H P (.tbl (ps++[rawInt lpos.line,rawInt lpos.col,.ref c'].toArray))) c' (.ext (codeAt c' (cj q)))) {s with heap:=h'.push {cls:=.type "function",data:=.func (kla_fn "<lambda>" (cj q) params body lsc cl ((X.mg "__name__").getD .none) (.ref c') ctv)},toks:=tk}:=I1.kept (t':=tk) fun b u e=>Heap.get?_push_of_some _ e
  have old:∀b,b≠P->b≠c'->upd (upd H P (.tbl (ps++[rawInt lpos.line,rawInt lpos.col,.ref c'].toArray))) c' (.ext (codeAt c' (cj q))) b=H b:=fun b h1 h2=>by rw[aP h2,aP h1]
  have nPc:P≠c':=aI hP fc
  have ex:Ext X.K U H U (upd (upd H P (.tbl (ps++[rawInt lpos.line,rawInt lpos.col,.ref c'].toArray))) c' (.ext (codeAt c' (cj q)))):=⟨fun b u e n nt=>by rw[old b (fun z=>by rw[z,hP] at e;cases e;exact nt) (aI e fc)];exact e,fun b qs e n=>by
   by_cases z:b=P
   ·exact⟨_,by rw[z,aP nPc];exact bS⟩
   ·exact⟨qs,by rw[old b z (aI e fc)];exact e⟩,fun _ ds e=>⟨ds,e⟩,fun _ e _=>e,fun b o e _=>by
   by_cases z:b=P
   ·exact⟨_,by rw[z,aP nPc];exact bS⟩
   ·exact⟨o,by rw[old b z (aI e fc)];exact e⟩,fun _ c e=>⟨c,e⟩⟩
  have mu:bC X.K U (upd (upd H P (.tbl (ps++[rawInt lpos.line,rawInt lpos.col,.ref c'].toArray))) c' (.ext (codeAt c' (cj q)))):=⟨fun a ds e=>by
   obtain⟨xs,h1,h2⟩:=ok a ds e
   exact⟨xs,by rw[old a (fun z=>by rw[z,hP] at h1;cases h1) (aI h1 fc)];exact h1,h2.ext ok ex⟩,MN ok.tab hP htr hcs hf fc hu,fun a c e=>by
   obtain⟨y,o,h1,h2⟩:=ok.box a c e
   exact⟨y,o,by rw[old a (fun z=>by rw[z,hP] at h1;cases h1) (aI h1 fc)];exact h1,h2.ext ok ex⟩⟩
  have hfr:s.heap.objs.size<=h'.objs.size:=le_trans hge (Nat.le_of_lt hlt)
  refine k h'.objs.size c' ctv _ _ _ I2 ex mu (Heap.get?_push_size _ rfl) ?_ (stk _ hfr) bS
  have:h'.objs.size≠c':=Nat.ne_of_gt hlt
  by_cases z:h'.objs.size=P
  ·exact absurd (Heap.lt_size getP) (by rw[<- z];exact Nat.not_lt.mpr hfr)
  ·rw[old _ z this];exact I.hok.fresh hfr
end
noncomputable def uY(lsc:Scope)(cl:List (Str×Addr))(q:Str)(fa c1 L:Addr):Env:={scope:=lsc,locals:=L,globals:=mainGlobals,cells:=cl,qual:=q ++ ".<locals>.",func:=some fa,code:=.ref c1,frame:=some L,builtins:=builtinsNs}
noncomputable def wK(P:Program)(w:World)(K:PySem.W.Frag)(mg:Str->Option Value)(base:Heap)(N:List Str)(lsc:Scope)(cl:List (Str×Addr))(q:Str)(fa c1:Addr)(A:Around)(outer:List Env)(s:Shared)(H:Hp)(E:XK):Cx where
 prog:=P
 w:=w
 K:=K
 mg:=mg
 base:=base
 A:=A.deeper (uY lsc cl q fa c1 s.heap.objs.size)
 N:=N
 gl:=s
 H₀:=H
 env:=uY lsc cl q fa c1 s.heap.objs.size
 outer:=outer
 stack:=uY lsc cl q fa c1 s.heap.objs.size::outer
 ex:=[]
 calm:=true
 fn:=fun _=>false
 pn:=[]
 xe:=fun e s'=>wpAny (model P w) (A.deeper (uY lsc cl q fa c1 s.heap.objs.size)) (leaving (uY lsc cl q fa c1 s.heap.objs.size) e) (fun _ s''=>CX1 P w outer H s E e s'') (fun e' s''=>CX1 P w outer H s E e' s'') s'
section
variable {P:Program}{w:World}{K:PySem.W.Frag}{mg:Str->Option Value}{base:Heap}{N:List Str}{lsc:Scope}{cl:List (Str×Addr)}{q:Str}{fa c1:Addr}{A:Around}{outer:List Env}{s:Shared}{H:Hp}{E:XK}{σ:St}{k:Nat}{params:Arguments}{body:Expr}{pm ctv:Value}{t:TE}
theorem NZ:XOk (wK P w K mg base N lsc cl q fa c1 A outer s H E) E where
 new:=fun pins σ H1 s1 ea cls vs h1 I hx qq=>leave_new (X:=wK P w K mg base N lsc cl q fa c1 A outer s H E) ⟨rfl,rfl,rfl⟩ I hx qq
 pas:=fun pins σ H1 s1 e s' I h=>Bt (X:=wK P w K mg base N lsc cl q fa c1 A outer s H E) ⟨rfl,rfl,rfl⟩ I h
structure Clo(lsc:Scope)(cl:List (Str×Addr))(N:List Str)(σ:St)(h:Heap)(H:Hp):Prop where
 cell:∀x c,cl.lookup x=some c->∃v,h.IsCell c v
 free:∀x c,cl.lookup x=some c->H c=none
 inj:∀x y c,cl.lookup x=some c->cl.lookup y=some c->x=y
 has:∀x,lsc.names.lookup x=some .cell\/lsc.names.lookup x=some .free->∃a,cl.lookup x=some a
 vals:∀(i:Nat) (x:Str) (v:V),N[i]? = some x->σ[i]? = some (some v)->Vis lsc x->∃u c,RelV v u/\lsc.names.lookup x=some .free/\cl.lookup x=some c/\h.IsCell c (some u)
 len:σ.length=N.length
theorem Mx{Q:VK}(hk:lsc.kind = .function)(hco:lsc.isCoroutine=false)(hgen:lsc.isGenerator=false)(hcell:∀y∈lsc.names,y.2≠.cell)(hr:fJ (k+1) A)(e0:Gv P w K mg base A outer s H)
  (ho:s.heap.get? fa=some {cls:=.type "function",data:=.func (kla_fn "<lambda>" q params body lsc cl pm (.ref c1) ctv)}) (hcd:H c1=some (.ext (codeAt c1 q))) (hbind:bindArgs (kla_fn "<lambda>" q params body lsc cl pm (.ref c1) ctv) ⟨[],[]⟩=pure [])
  (C:Clo lsc cl N σ s.heap H) (pe:PE (wK P w K mg base N lsc cl q fa c1 A outer s H E) body t) (ht:t σ H Q) :
  codeAny (model P w) A (.call (.ref fa) ⟨[],[]⟩) (CR (CX1 P w) outer P w H s Q E) s:=by
 have crec:s.heap.CodeRec (.ref c1) q:=by
  obtain⟨⟨o,vs,t,g,d,v⟩,_,_⟩:=e0.hok c1 _ hcd
  exact⟨c1,o,vs,t,rfl,g,d,v⟩
 refine PySem.W.kla_callFunE hr.depth ho rfl hco hgen rfl crec ?_
 rw[hbind]
 refine wpAny_pure (wpAny_newFunctionEnv hcell (fun y hy=>nomatch hy) (fun kw hns hsb=>?_) hk)
 have pi:∀b o,s.heap.get? b=some o->kw.get? b=some o:=fun b o e=>hsb.extBut b o (ne_of_lt (Heap.lt_size e)) (Heap.get?_push_of_some _ e)
 have lim:kw.NoLimit:=e0.mod.nolimit.keeps fun b o e=>pi b o (e0.bs b o e).1
 refine⟨lim,?_⟩
 have noA:∀b:Addr,b ∉ (wK P w K mg base N lsc cl q fa c1 A outer s H E).ex:=fun b z=>nomatch z
 have I:Inv (wK P w K mg base N lsc cl q fa c1 A outer s H E) [] σ H {s with heap:=kw,toks:=s.toks+([]:List (Str×Value)).length}:=by
  refine⟨⟨e0.mod,hk,rfl,rfl,Nat.le_refl _,C.inj,C.has,fun _ _ z=>(nomatch z),fun _=>hr.hd,.inl hr.hd,Around.frames_deeper e0.frames,.inr ⟨rfl,rfl⟩,fun b z=>absurd z (noA b),e0.bs,e0.bsz,fun b _ _=>noA b,fun b z=>absurd z (noA b),e0.se,e0.frf⟩,
   rfl,e0.bare,Un.kept pi,⟨_,hns,fun i x v h1 h2 h3=>?_⟩,fun x c h=>?_,e0.hok.fresh (Nat.le_refl _),C.free,fun p hp=>(nomatch hp),e0.hok.kept pi,C.len⟩
  ·obtain⟨u,c,r,f1,f2,o,f3,f4⟩:=C.vals i x v h1 h2 h3
   exact⟨u,r,.inr ⟨.inr f1,c,f2,o,pi _ _ f3,f4⟩⟩
  ·obtain⟨v,o,f3,f4⟩:=C.cell x c h
   exact⟨v,o,pi _ _ f3,f4⟩
 show codeAny _ _ (.expr body (uY lsc cl q fa c1 s.heap.objs.size)) _ _
 refine PySem.W.kla_codeExpr (wpAny_mono (pe [] _ σ H Q I ht) (fun v s' hv=>?_) fun e s' hs=>hs)
 obtain⟨x,H',J,r,qq⟩:=hv
 exact⟨x,H',J.os,J.bare,J.base,J.hok,r,qq⟩
end
noncomputable def cxH(X:Cx)(ea:Addr)(oe:Obj):Cx:={X with A:=X.A.mark (some (.ref ea)),calm:=false,pn:=(ea,oe)::X.pn,xe:=fun _ _=>False}
section
variable {X:Cx}{pins:List (Addr×Obj)}{σ:St}{H:Hp}{s:Shared}{O:Addr->Prop}{ea:Addr}{oe:Obj}{vs:Array Value}
theorem D8{h':Heap}(hF:Frm X)(I:Inv X pins σ H s)(k:Kp O (frs (X.env::X.outer)) s.heap h')(hO:∀b o,X.gl.heap.get? b=some o->O b)(ht:∀b,H b≠none->O b)(hp:∀p∈X.pn++pins,O p.1):Inv X pins σ H {s with heap:=h'}:=by
 have cellK:∀c v,s.heap.IsCell c v->h'.IsCell c v:=fun c v ⟨o,e,d⟩=>by
  obtain⟨sl,e'⟩:=k.slot c o e fun vs z=>by rw[d] at z;cases z
  exact⟨_,e',d⟩
 refine⟨I.ok,I.os,I.bare,?_,?_,fun x c e=>let ⟨v,q⟩:=I.cell x c e;⟨v,cellK c v q⟩,I.free,I.jE,fun p hp'=>?_,HOk.fly I.hok k ht (E1 hF I),I.len⟩
 ·have k':=k
  rw[uG hF] at k'
  have u:=I.base
  rw[hF.ex] at u ⊢
  exact Un.fly u k' hO (Ib I) (Eu I)
 ·obtain⟨m,⟨o,es,ep,e,d,r⟩,hl⟩:=I.loc
  obtain⟨sl,e'⟩:=k.slot _ o e fun vs z=>by rw[d] at z;cases z
  refine⟨m,⟨_,es,ep,e',d,r⟩,fun i x v h1 h2 h3=>?_⟩
  obtain⟨u,ru,lk⟩:=hl i x v h1 h2 h3
  refine⟨u,ru,?_⟩
  rcases lk with z|⟨z,c,z1,z2⟩
  ·exact .inl z
  ·exact .inr ⟨z,c,z1,cellK _ _ z2⟩
 ·obtain⟨a1,a2,a3,a4,a5⟩:=I.pin p hp'
  exact⟨k.keep _ _ a1 (hp p hp') fun z=>by
   rw[uG hF] at z
   rcases List.mem_cons.mp z with z|z
   ·exact a3 z
   ·exact a4 z,a2,a3,a4,a5⟩
theorem Uv(I:Inv X pins σ H s)(he:s.heap.get? ea=some oe)(hH:H ea=none)(hL:ea≠X.env.locals)(hfs:ea ∉ X.fs)(hd:oe.data = .fields vs)(h2:vs[2]? = some .none):Inv (cxH X ea oe) pins σ H s:=
 ⟨⟨I.ok.mod,I.ok.kind,I.ok.glob,I.ok.blt,I.ok.above,I.ok.inj,I.ok.has,I.ok.cab,fun z=>(nomatch z),.inr ⟨ea,oe,vs,rfl,mem_cons_self,hd,h2⟩,I.ok.frames,I.ok.stk,I.ok.exf,I.ok.bs,I.ok.bsz,I.ok.KP,I.ok.NV,I.ok.se,I.ok.frf⟩,
  I.os,I.bare,I.base,I.loc,I.cell,I.free,I.jE,fun p hp=>by
   rcases List.mem_cons.mp (show p∈(ea,oe)::(X.pn++pins) from hp) with z|z
   ·rw[z];exact⟨he,hH,hL,hfs,fun v y=>by rw[hd] at y;cases y⟩
   ·exact I.pin p z,I.hok,I.len⟩
theorem Nx{h':Heap}{m':Str->Option Value}{tk:Nat}(ok:X.Ok)(I:Inv (cxH X ea oe) pins σ H s)(hn:h'.Ns X.env.locals m')(hs:Heap.SameBut X.env.locals s.heap h')(hx:X.ex=[]):Inv X pins (List.replicate X.N.length none) H {s with heap:=h',toks:=tk}:=by
 have kp:∀b o,b≠X.env.locals->s.heap.get? b=some o->h'.get? b=some o:=fun b o hb e=>(hs.2 b hb).trans e
 have low:∀b o,X.gl.heap.get? b=some o->b≠X.env.locals:=fun b o e=>ne_of_lt (lt_of_lt_of_le (Heap.lt_size e) ok.above)
 have cne:∀x c,X.env.cells.lookup x=some c->c≠X.env.locals:=I.cne
 have u:Un X.fs X.ex X.H₀ H X.gl.heap s.heap:=I.base
 have hneL:∀b∈X.fs,b≠X.env.locals:=fun b hb z=>by
  obtain⟨_,o,e,_⟩:=ok.se.mem hb
  exact low b o e z
 refine⟨ok,I.os,I.bare,⟨fun b o e n f x=>kp b o (low b o e) (u.keep b o e n f x),fun b o e n f x=>?_,u.free,fun b o e x=>?_,u.rR,u.qv,u.qr⟩,⟨m',hn,fun i x v h1 h2 h3=>?_⟩,fun x c e=>?_,I.free,I.jE,fun p hp=>?_,fun b o e=>?_,by simp⟩
 ·obtain⟨sl,e1⟩:=u.slot b o e n f x
  exact⟨sl,kp b _ (low b o e) e1⟩
 ·obtain⟨o1,e1⟩:=u.there b o e x
  exact⟨o1,kp b o1 (low b o e) e1⟩
 ·rw[List.getElem?_replicate] at h2
  split at h2<;>cases h2
 ·obtain⟨v,o,e1,d⟩:=I.cell x c e
  exact⟨v,o,kp c o (cne x c e) e1,d⟩
 ·obtain⟨a1,a2,a3,a4,a5⟩:=I.pin p (mem_cons_of_mem _ hp)
  exact⟨kp _ _ a3 a1,a2,a3,a4,a5⟩
 ·refine (I.hok b o e).xa (fun d v hd q=>kp d v ?_ q) (fun _ q=>q) fun _ _ q=>q
  have fr:H X.env.locals=none:=I.free
  rintro rfl
  rcases hd with z|z
  ·rw[<- z,fr] at e;cases e
  ·rw[fr] at z;cases z
noncomputable def UT(X:Cx)(di ni:Nat)(C:Value)(tS:Addr->Obj->TS):TS:=fun D σ H=>∃(fa:Addr) (Good:Hp->Prop),σ[di]? = some (some (.ref fa)) /\
 (∀s1,Inv X [] σ H s1->PySem.W.FnAt fa s1.heap/\codeAny (model X.prog X.w) X.A (.call (.ref fa) ⟨[],[]⟩) (CR (CX1 X.prog X.w) X.stack X.prog X.w H s1 (fun _ _=>False) (fun cls _ H'=>cls=C/\Good H')) s1) /\
 ∀H' ea oe,Good H'->oe.cls=C->H' ea=none->tS ea oe {nx:=fun _ _=>False,rt:=D.rt} (σ.set ni (some (.ref ea))) H'
theorem RK{dn x n:Str}{dp cp ep np hp pos:Pos}{di ni:Nat}{po:Stmt}{suite:List Stmt}{C FE:Addr}{tS:Addr->Obj->TS}(hF:Frm X)(hpn:X.pn=[])(hNd:X.N.Nodup)(hd:X.N[di]? = some dn)(hv:Vis X.env.scope dn)(hn:X.N[ni]? = some n)(hl:X.env.kindOf n=some .local)(hg:Gl X x)(hm:X.mg x=some (.ref FE))
  (hex:exmOne X.K (.ref C) (.ref FE)=some true) (hs:∀ea oe,PSs (cxH X ea oe) (po::suite) (tS ea oe)) (hdb:(dn==("__debug__":Str))=false:=by decide) (hdc:(dn==("__classdict__":Str))=false:=by decide) (hxb:(x==("__debug__":Str))=false:=by decide)
  (hsw:swapsWith (.Call (.Name dn dp) [] [] cp) none ep.line X.env=pure false:=by rfl) (pins0:List (Addr×Obj)) (s:Shared) (σ:St) (H:Hp) (D:Ends) (hp0:pins0=[]) (I0:Inv X pins0 σ H s) (h:UT X di ni (.ref C) tS D σ H) :
  wpAny (model X.prog X.w) X.A (exec (.Try [.Expr (.Call (.Name dn dp) [] [] cp) ep] [.ExceptHandler (some (.Name x np)) (some n) (po::suite) hp] [] [] pos) X.env) (SP X pins0 D) X.xe s:=by
 subst hp0
 obtain⟨fa,Good,AT,deed,good⟩:=h
 refine wpAny_Try_except (wpAny_execs_cons (wpAny_Expr_any (wpAny_Call_Name_kw (wpAny_mono (NR (X:=X.nox) hd hv hdb hdc [] s σ H (fun v H1=>v = .ref fa/\H1=H) (I0.xY _) ⟨.ref fa,AT,rfl,rfl⟩) (fun v s1 hv1=>?_) fun _ _ z=>z.elim)) I0.quiet hsw))
 obtain⟨y,H1,I1,r,e1,e2⟩:=hv1
 subst e1 e2
 cases r
 have I1:=I1.nu
 obtain⟨fn,code⟩:=deed s1 I1
 refine PySem.W.callWith_F0 fn (wpAny_call (codeAny_mono code fun r s' hr=>?_))
 cases r with
 |ok fl=>
  cases fl with
  |ret u=>obtain⟨_,_,_,_,_,_,_,z⟩:=hr;exact z.elim
  |next=>exact hr.elim
  |brk=>exact hr.elim
  |cont=>exact hr.elim
 |error e=>
  obtain⟨O,ea,cls,H',rfl,os,bare,un,hok,hO,ht,F,rfl,gd⟩:=hr
  have I':Inv X [] σ H' s':=I1.II (ch:=[]) os un hok bare (fun b z=>nomatch z)
  have fr:X.A.frames=some (X.env::X.outer):=by rw[<- hF.stk];exact I0.ok.frames
  have hO0:∀b o,X.gl.heap.get? b=some o->O b:=fun b o e=>by
   obtain⟨o',e'⟩:=I1.base.there b o e (by rw[hF.ex];exact fun z=>nomatch z)
   exact hO b o' e'
  have hpp:∀p∈X.pn++([]:List (Addr×Obj)),O p.1:=fun p hp=>by rw[hpn] at hp;exact nomatch hp
  have hLO:O X.env.locals:=by
   obtain⟨m,⟨o,es,ep,e,_⟩,_⟩:=I1.loc
   exact hO _ o e
  refine Br (s:=s') fr (vp hF I') hF.fr F fun h2 k2 F2=>?_
  have I2:=D8 hF I' k2 hO0 ht hpp
  refine kz (s:={s' with heap:=h2}) (fs:=frs (X.env::X.outer)) F2 fun h3 k3 F3=>?_
  have I3:=D8 hF I2 k3 hO0 ht hpp
  have keyE:∀{h:Heap} {fl:Value},Fly O h ea (.ref C) fl->∀{s4:Shared},s4.heap=h->Inv X [] σ H' s4->∃oe,oe.cls = .ref C/\s4.heap.get? ea=some oe/\H' ea=none/\Inv (cxH X ea oe) [] σ H' s4:=fun {h fl} G {s4} e4 I4=>by
   obtain⟨_,oe,vs,T,oT,ts,g1,g2,g3,g4,g5,g6,_⟩:=G
   have hH:H' ea=none:=by
    cases z:H' ea with
    |none=>rfl
    |some o=>exact absurd (ht ea (by rw[z];exact fun y=>nomatch y)) g6
   refine⟨oe,g2,by rw[e4];exact g1,hH,Uv I4 (by rw[e4];exact g1) hH (fun z=>g6 (by rw[z];exact hLO)) (fun z=>?_) g3 g5⟩
   exact Eu I4 ea z oe (by rw[e4];exact g1) vs g3
  obtain⟨oe3,c3,g3,n3,H3⟩:=keyE F3 rfl I3
  refine wpAny_handleBy_cons (codeAny_handlers_test (tI (X:=cxH X ea oe3) H3 hg hm ?_ hxb)) (by intro z;cases z)
  refine (PySem.W.exm_one (M:=model X.prog X.w) (K:=X.K) (h:=h3) I3.kIn (fun A' Q' E' s4 kk q=>?_) hex).here ?_
  ·have e3:=kk _ _ g3
   unfold typeOf
   refine wpAny_bind (wpAny_loadPart e3 ?_)
   rw[c3]
   exact wpAny_pure q
  ·refine codeAny_handlers_suite_as (kz (s:={s' with heap:=h3}) (fs:=frs (X.env::X.outer)) F3 fun h4 k4 F4=>?_)
   have I4:=D8 hF I3 k4 hO0 ht hpp
   obtain⟨oe,c4,g4,n4,H4⟩:=keyE F4 rfl I4
   refine lW (X:=cxH X ea oe) (v:=.ref ea) H4 hNd hn (Or.inl hl) rfl (fun s5 I5=>?_) (Or.inr hl)
   refine wpAny_mono (hs ea oe [] s5 _ H' {nx:=fun _ _=>False,rt:=D.rt} I5 (good H' ea oe gd c4 n4)) (fun f s6 h6=>?_) fun e s6 z=>z.elim
   cases f with
   |next=>obtain⟨_,_,_,z⟩:=h6;exact z.elim
   |brk=>obtain⟨_,_,_,z⟩:=h6;exact z.elim
   |cont=>obtain⟨_,_,_,z⟩:=h6;exact z.elim
   |ret u=>
    obtain⟨v,bn,H6,I6,r6,q6⟩:=h6
    obtain⟨m6,hn6,_⟩:=I6.loc
    refine wpAny_nameGoes (env:=X.env) hl hn6 (by rw[I0.ok.kind];rfl) fun h7 m7 hn7 hs7=>?_
    exact⟨v,_,H6,Nx I0.ok I6 hn7 hs7 hF.ex,r6,q6⟩
end
theorem TH{CX:CXT}{P:Program}{w:World}{K:PySem.W.Frag}{mg:Str->Option Value}{base:Heap}{k:Nat}{f:Addr}{name qual:Str}{params:Arguments}{body:List Stmt}{scope:Scope}{dV kV doc pm cdv ct oc:Value}{an od:Option Addr}{osl:Array (Option Value)}{N ps:List Str}
  {A:Around} {outer:List Env} {s:Shared} {H:Hp} {args:Args} {us:List Value} {vs:List V} {Q:VK} {E:XK} (lk:K.lookup f=some ⟨oc,od,.func (fnOf name qual params body scope dV kV doc pm an cdv ct),osl⟩) (hcd:codeIn K cdv qual=true) (S:aE N ps scope)
  (hl:vs.length=ps.length) (hr:fJ (k+1) A) (e0:Gv P w K mg base A outer s H) (hb:BindsTo s (fnOf name qual params body scope dV kV doc pm an cdv ct) args (ps.zip us)) (r:Vals vs us)
  (hq:∀s1,Inv (kL CX P w K mg base N qual scope f cdv A outer s H E) [] (start N vs) H s1->wpAny (model P w) (A.deeper (envOfC qual scope s.heap.objs.size f cdv)) (execs body (envOfC qual scope s.heap.objs.size f cdv)) (SP (kL CX P w K mg base N qual scope f cdv A outer s H E) [] {nx:=fun _ H'=>Q .non H',rt:=Q}) (kL CX P w K mg base N qual scope f cdv A outer s H E).xe s1) :
  codeAny (model P w) A (.call (.ref f) args) (CR CX outer P w H s Q E) s:=by
 have KX:K.In s.heap:=e0.mod.kin.keeps fun b o e=>(e0.bs b o e).1
 have lim:s.heap.NoLimit:=e0.mod.nolimit.keeps fun b o e=>(e0.bs b o e).1
 have hkind:∀y∈ps.zip us,scope.names.lookup y.1=some .local\/(scope.names.lookup y.1=some .cell/\((cellsFrom (s.heap.objs.size+1) scope.names []).lookup y.1).isSome=true):=fun ⟨n,v⟩ hy=>by
  rcases S.par n (List.of_mem_zip hy).1 with q|q
  ·exact .inl q
  ·exact .inr ⟨q,PySem.W.cellsFrom_some _ _ _ (.inl q)⟩
 refine codeAny_call_function hr.depth (KX _ _ lk) rfl S.co S.gen rfl (PySem.W.codeRec_of KX hcd) (hb _ _ _ _ ?_)
 refine wpAny_newFunctionEnv_cells S.kind hkind fun env he s1 x=>?_
 subst he
 refine⟨lim.keeps x.toInCall.keep,codeAny_func ?_⟩
 have I:Inv (kL CX P w K mg base N qual scope f cdv A outer s H E) [] (start N vs) H s1:=BB S hr.hd e0 hl r x
 refine wpAny_mono (hq s1 I) (fun fl s' hs=>?_) fun e s' hs=>hs
 have fin:∀{bn:St} {H':Hp} {v:V} {u:Value},Inv (kL CX P w K mg base N qual scope f cdv A outer s H E) [] bn H' s'->RelV v u->Q v H'->CE outer P w H s Q u s':=
  fun {bn H' v u} J rv q=>⟨v,H',J.os,J.bare,J.base,J.hok,rv,q⟩
 cases fl with
 |ret u=>obtain⟨v,bn,H',J,rv,q⟩:=hs;exact fin J rv q
 |next=>obtain⟨bn,H',J,q⟩:=hs;exact fin (v:=V.non) (u:=Value.none) J rfl q
 |brk=>obtain⟨_,_,_,q⟩:=hs;exact False.elim q
 |cont=>obtain⟨_,_,_,q⟩:=hs;exact False.elim q
structure Lm(P:Program)(w:World)(K:PySem.W.Frag)(mg:Str->Option Value)(base:Heap)(k:Nat)(f:Addr)(fd:FuncData)(dn:Str)(C:Value)(nm:Str):Prop where
 run:∀(A:Around) (outer:List Env) (s:Shared) (H:Hp) (fa:Addr) (Good:Hp->Prop) (Q:VK),fJ (k+1) A->Gv P w K mg base A outer s H->BindsTo s fd ⟨[.ref fa],[]⟩ ([dn].zip [.ref fa]) ->
  (∀(A':Around) (outer':List Env) (s':Shared),fJ k A'->Gv P w K mg base A' outer' s' H->Un (frs outer) [] H H s.heap s'.heap->PySem.W.FnAt fa s'.heap/\codeAny (model P w) A' (.call (.ref fa) ⟨[],[]⟩) (CR (CX1 P w) outer' P w H s' (fun _ _=>False) (fun cls _ H'=>cls=C/\Good H')) s') ->
  (∀H',Good H'->∃U,bC K U H'/\∀H'',Ext K U H' U H''->bC K U H''->Q (.str nm) H'') ->
  codeAny (model P w) A (.call (.ref f) ⟨[.ref fa],[]⟩) (CR CX0 outer P w H s Q E0) s
theorem Q8{P:Program}{w:World}{K:PySem.W.Frag}{mg:Str->Option Value}{base:Heap}{k:Nat}{f:Addr}{fd:FuncData}{fx qual:Str}{st:Stmt}{dn n y1 y2 x:Str}{dp cp ep np hp pos:Pos}{po:Stmt}{suite rest:List Stmt}{C FE:Addr}{nm:Str}{td:Addr->DTS}
  (F:Fun K fx qual st f fd) (S:aE [dn,n,y1,y2] [dn] (aw st))
  (hbody:dH st = .Try [.Expr (.Call (.Name dn dp) [] [] cp) ep] [.ExceptHandler (some (.Name x np)) (some n) (po::suite) hp] [] [] pos::rest)
  (hv:(aw st).names.lookup dn=some .local) (hl:(aw st).names.lookup n=some .local) (hg:(aw st).names.lookup x=some .globalImplicit) (hm:mg x=some (.ref FE)) (hex:exmOne K (.ref C) (.ref FE)=some true)
  (hdb:(dn==("__debug__":Str))=false) (hdc:(dn==("__classdict__":Str))=false) (hxb:(x==("__debug__":Str))=false)
  (hsw:∀env:Env,swapsWith (.Call (.Name dn dp) [] [] cp) none ep.line env=pure false)
  (hs:∀(cdv:Value) (A:Around) (outer:List Env) (s:Shared) (H:Hp) (ea:Addr) (oe:Obj),oe.cls = .ref C->fJ k (kL CX0 P w K mg base [dn,n,y1,y2] qual (aw st) f cdv A outer s H E0).A->DSs (cxH (kL CX0 P w K mg base [dn,n,y1,y2] qual (aw st) f cdv A outer s H E0) ea oe) (po::suite) (td ea))
  (hrd:∀(ea fa:Addr) (U:Mu) (Qd:DK),Qd (.v (.str nm)) U->td ea {nx:=fun _ _=>False,rt:=Qd} [some (.o fa),some (.o ea),none,none] U):Lm P w K mg base (k+1) f fd dn (.ref C) nm where
 run:=fun A outer s H fa Good Q hr e0 hb deed fin=>by
  obtain⟨oc,od,kV,doc,pm,an,cdv,ct,osl,rfl,lk,hcd⟩:=F.ex
  refine TH (k:=k+1) (vs:=[.ref fa]) (us:=[.ref fa]) lk hcd S rfl hr e0 hb (.cons rfl .nil) fun s1 I=>?_
  show wpAny _ _ (execs (dH st) _) _ _ _
  rw[hbody]
  have hX:∀ea oe,PSs (cxH (kL CX0 P w K mg base [dn,n,y1,y2] qual (aw st) f cdv A outer s H E0) ea oe) (po::suite) (fun D bn H'=>oe.cls = .ref C/\H' ea=none/\bn=(start [dn,n,y1,y2] [V.ref fa]).set 1 (some (.ref ea))/\∃U,bC K U H'/\∀H'',Ext K U H' U H''->bC K U H''->D.rt (.str nm) H''):=fun ea oe pins' s' bn H' D I' h=>by
   obtain⟨hc,hH,rfl,U,ok,q⟩:=h
   obtain⟨t,p,l⟩:=hs cdv A outer s H ea oe hc ((hr.deeper _).mono (Nat.le_succ _))
   refine p pins' s' _ H' D I' (l _ H' [some (.o fa),some (.o ea),none,none] U {nx:=fun _ _=>False,rt:=fun d Z=>d = .v (.str nm)/\Z=U} D ⟨ok,rfl,fun i d e=>?_⟩ (hrd ea fa U _ ⟨rfl,rfl⟩) (fun _ _ _ _ _ _ z=>z.elim) (fun d u Z H'' e' ok' r ⟨z1,z2⟩=>?_) (fun _ _ _ _ _ _ z=>z.elim) (fun _ _ _ _ _ _ z=>z.elim))
   ·match i,e with
    |0,e=>cases e;exact⟨.ref fa,rfl,rfl⟩
    |1,e=>cases e;exact⟨.ref ea,rfl,rfl⟩
    |2,e=>cases e
    |3,e=>cases e
   ·subst z1 z2
    cases r
    exact q H'' e' ok'
  refine wpAny_execs_cons (wpAny_mono (RK (X:=kL CX0 P w K mg base [dn,n,y1,y2] qual (aw st) f cdv A outer s H E0) (C:=C) (FE:=FE) (di:=0) (ni:=1) ⟨rfl,rfl,rfl⟩ rfl S.nd rfl (Or.inl hv) rfl hl hg hm hex hX hdb hdc hxb (hsw _) [] s1 _ H {nx:=fun _ _=>False,rt:=Q} rfl I
   ⟨fa,Good,rfl,fun s2 I2=>deed _ _ s2 (hr.deeper _) I2.Q2 I2.base,fun H' ea oe gd c hn=>⟨c,hn,rfl,fin H' gd⟩⟩) (fun fl s' hs'=>?_) fun _ _ z=>z)
  cases fl with
  |ret u=>exact hs'
  |next=>obtain⟨_,_,_,z⟩:=hs';exact z.elim
  |brk=>obtain⟨_,_,_,z⟩:=hs';exact z.elim
  |cont=>obtain⟨_,_,_,z⟩:=hs';exact z.elim
section
variable {X:Cx}{e:Expr}{te:DTE}{p py pos:Pos}{y:Str}{C:Addr}{b:Bool}{ea:Addr}{oe:Obj}
noncomputable def nM(ea:Addr)(b:Bool)(te:DTE):DTE:=fun ρ U Q=>te ρ U fun x ad=>match x with
 |.o a=>a=ea/\Q (.v (.bool b)) ad
 |_=>False
theorem FI{cv:V}{w:Value}(ZZ:xK X.K C)(hp:(ea,oe)∈X.pn)(hc:oe.cls = .ref C)(r:RelV cv w)(hw:∀u,RelV cv u->u=w)(ek:kitOne X.K (.ref C) w=some b):jc X (.builtin "isinstance") (fun xs H Q=>xs=[.ref ea,cv]/\Q (.bl b) H):=by
 intro pins s σ H xs us Q I rr h
 obtain⟨rfl,q⟩:=h
 obtain⟨v,w',rfl,r1,r2⟩:=vals2 rr
 cases r1
 obtain rfl:=hw w' r2
 exact kia_one (Nv ZZ) I.kIn ⟨oe,(I.pin (ea,oe) (mem_append_left _ hp)).1,hc⟩ ek (fun z=>nomatch z) fun tk=>⟨.bl b,H,I.tok _,rfl,q⟩
theorem g0{C':Addr}(ZZ:xK X.K C)(hp:(ea,oe)∈X.pn)(hc:oe.cls = .ref C)(ek:kitOne X.K (.ref C) (.ref C')=some b)(hg:Gl X "isinstance")(hm:X.mg "isinstance"=none)(hgy:Gl X y)(hmy:X.mg y=some (.ref C'))(ha:DE X e te)(hdy:(y==("__debug__":Str))=false:=by decide)
  (he:starEach [e,.Name y py] X.env=(false,eval e X.env)::starEach [.Name y py] X.env:=by rfl) (he2:starEach [.Name y py] X.env=[(false,eval (.Name y py) X.env)]:=by rfl) (hpl:(backTo pos (starEach [.Name y py] X.env)).any (·.1)=false:=by rfl):DE X (.Call (.Name "isinstance" p) [e,.Name y py] [] pos) (nM ea b te):=by
 obtain⟨t1,p1,l1⟩:=ha
 refine⟨_,tE (FI (cv:=.ref C') ZZ hp hc rfl (fun u h=>h) ek) hg hm PyProof.Rows.Boot.«isinstance» (eY p1 (eY (Jk (v:=.ref C') hgy hmy rfl hdy) pB he2) he) ⋯ ⋯ he hpl,fun σ H ρ U Qd Q S h k=>?_⟩
 refine l1 σ H ρ U _ _ S h fun x ux ad H1 e1 S1 rx h1=>?_
 split at h1
 ·obtain⟨rfl,h1⟩:=h1
  obtain rfl:ux = .ref _:=rx
  exact⟨rfl,k (.v _) _ ad H1 e1 S1 (Rp.bool _) h1⟩
 ·exact h1.elim
theorem PM{T:String}(ZZ:xK X.K C)(hp:(ea,oe)∈X.pn)(hc:oe.cls = .ref C)(ek:kitOne X.K (.ref C) (.type T)=some b)(hg:Gl X "isinstance")(hm:X.mg "isinstance"=none)(hgy:Gl X y)(hmy:X.mg y=none)(hvy:bootBuiltins y=some (.type T))(ha:DE X e te)(hny:y ≠ "__name__":=by decide)(hdy:(y==("__debug__":Str))=false:=by decide)
  (he:starEach [e,.Name y py] X.env=(false,eval e X.env)::starEach [.Name y py] X.env:=by rfl) (he2:starEach [.Name y py] X.env=[(false,eval (.Name y py) X.env)]:=by rfl) (hpl:(backTo pos (starEach [.Name y py] X.env)).any (·.1)=false:=by rfl):DE X (.Call (.Name "isinstance" p) [e,.Name y py] [] pos) (nM ea b te):=by
 obtain⟨t1,p1,l1⟩:=ha
 refine⟨_,tE (FI (cv:=.ty T) ZZ hp hc rfl (fun u h=>h) ek) hg hm PyProof.Rows.Boot.«isinstance» (eY p1 (eY (Jl (v:=.ty T) hgy hmy hvy rfl hny hdy) pB he2) he) ⋯ ⋯ he hpl,fun σ H ρ U Qd Q S h k=>?_⟩
 refine l1 σ H ρ U _ _ S h fun x ux ad H1 e1 S1 rx h1=>?_
 split at h1
 ·obtain⟨rfl,h1⟩:=h1
  obtain rfl:ux = .ref _:=rx
  exact⟨rfl,k (.v _) _ ad H1 e1 S1 (Rp.bool _) h1⟩
 ·exact h1.elim
end
structure Uq(K:PySem.W.Frag)(mg:Str->Option Value)(c P:Addr)(q:Str):Prop where
 obj:∃o,K.lookup c=some o/\bJ o=some (P,q)
 one:∀c2 o2 q2,K.lookup c2=some o2->bJ o2=some (P,q2)->q2=q
 blt:Rh K mg
noncomputable def D7(cap:List (Option Nat))(tx:DTX)(nm:Str):DTE:=fun ρ U Qd=>tx (cN cap ρ) U fun Z=>Qd (.v (.str nm)) Z
theorem Ku{X:Cx}{k:Nat}{f c P:Addr}{fd:FuncData}{dn rn q nm:Str}{C:Value}{params:Arguments}{body:Expr}{lsc:Scope}{lpos p pos:Pos}{cl:List (Str×Addr)}{N':List Str}{cap:List (Option Nat)}{tx:DTX}
  (R:Lm X.prog X.w X.K X.mg X.base k f fd dn C nm) (hr:fJ (k+1) X.A) (hg:Gl X rn) (hm:X.mg rn=some (.ref f)) (hk:keepIn X.K (.ref f)=true) (hb:Binds X.K fd [dn] []) (L:Uq X.K X.mg c P q) (hcode:X.env.code = .ref c) (hq:X.env.qual=q ++ ".<locals>.")
  (hk0:0<k) (he:∀(A':Around) (outer':List Env) (s':Shared) (H':Hp) (fa c1:Addr) (E:XK),fJ (k-1) (wK X.prog X.w X.K X.mg X.base N' lsc cl (cj q) fa c1 A' outer' s' H' E).A->XE (wK X.prog X.w X.K X.mg X.base N' lsc cl (cj q) fa c1 A' outer' s' H' E) E C body tx)
  (hdef:defaultsOf params X.env=([],[])) (hclos:closureFor lsc X.env=pure cl) (hbind:∀(pm ctv:Value) (c1:Addr),bindArgs (kla_fn "<lambda>" (cj q) params body lsc cl pm (.ref c1) ctv) ⟨[],[]⟩=pure [])
  (hkind:lsc.kind = .function) (hco:lsc.isCoroutine=false) (hgen:lsc.isGenerator=false) (hcell:∀y∈lsc.names,y.2≠.cell) (hcl:∀x a,cl.lookup x=some a->X.env.cells.lookup x=some a) (hhas:∀x,lsc.names.lookup x=some .cell\/lsc.names.lookup x=some .free->∃a,cl.lookup x=some a)
  (hlen:cap.length=N'.length) (hcap:∀(i j:Nat) (x:Str),cap[i]? = some (some j)->N'[i]? = some x->X.N[j]? = some x/\Vis X.env.scope x/\X.env.kindOf x≠some .local/\lsc.names.lookup x=some .free)
  (hdb:(rn==("__debug__":Str))=false:=by decide) (hst:starEach [.Lambda params body lsc lpos] X.env=[(false,eval (.Lambda params body lsc lpos) X.env)]:=by rfl) :
  DE X (.Call (.Name rn p) [.Lambda params body lsc lpos] [] pos) (D7 cap tx nm):=by
 refine Qc fun pins s σ H ρ U Qd Q I S h kk=>?_
 obtain⟨o,hl,hlc⟩:=L.obj
 refine wpAny_Call_Name_kw (tI I hg hm ?_ hdb)
 refine PySem.W.callWith_K (h₀:=X.base) I.ok.mod.kin hk (spliced_more (QR I S.mu hcode hl hlc L.one hq L.blt hclos hdef fun fa c1 ctv pm H1 s1 I1 ex mu ho hfa hfr hc1=>spliced_none ⟨I1.kIn,?_⟩) (by rw[hst];rfl)) (by rw[hst];rfl) rfl
 have S1:St0 X.K H1 ρ U σ:=⟨mu,S.rho.ext S.mu ex⟩
 refine wpAny_call (codeAny_mono (R.run X.A X.stack s1 H1 fa (fun H'=>∃Z,Ext X.K U H1 Z H'/\bC X.K Z H'/\Qd (.v (.str nm)) Z) Q hr I1.Q2 (hb s1 [.ref fa] I1.kIn rfl) (fun A' outer' s' hr' e0' un=>?_) fun H' ⟨Z,e',ok',q'⟩=>?_) fun r s' hq'=>?_)
 ·have ho':=un.keep fa _ ho hfa hfr (fun z=>nomatch z)
  refine⟨⟨_,_,_,_,ho'⟩,?_⟩
  obtain⟨k',rfl⟩:∃k',k=k'+1:=⟨k-1,∅⟩
  obtain⟨t,pe,l⟩:=he A' outer' s' H1 fa c1 (fun cls _ H'=>cls=C/\∃Z,Ext X.K U H1 Z H'/\bC X.K Z H'/\Qd (.v (.str nm)) Z) (hr'.deeper _)
  have cellK:∀x cc v,X.env.cells.lookup x=some cc->s1.heap.IsCell cc v->s'.heap.IsCell cc v:=fun x cc v hx ⟨oc,ec,dc⟩=>by
   obtain⟨sl,e2⟩:=un.any ec (I1.jE x cc hx) (fun z=>nomatch z)
   exact⟨_,e2,dc⟩
  refine Mx (σ:=cN cap σ) (N:=N') hkind hco hgen hcell hr' e0' ho' hc1 (hbind pm ctv c1) ⟨fun x cc hx=>?_,fun x cc hx=>I1.jE x cc (hcl x cc hx),fun x y cc h1 h2=>I1.ok.inj x y cc (hcl x cc h1) (hcl y cc h2),hhas,fun i x v h1 h2 h3=>?_,?_⟩ pe (l _ H1 (cN cap ρ) U (fun Z=>Qd (.v (.str nm)) Z) _ ⟨mu,S1.rho.cap⟩ h fun Z H' e' ok' q'=>⟨rfl,Z,e',ok',q'⟩)
  ·obtain⟨v,hv⟩:=I1.cell x cc (hcl x cc hx)
   exact⟨v,cellK x cc v (hcl x cc hx) hv⟩
  ·obtain⟨j,j1,j2⟩:=zN h2
   obtain⟨hN,hv,hnl,hfree⟩:=hcap i j x j1 h1
   obtain⟨m,_,hll⟩:=I1.loc
   obtain⟨u,ru,lk⟩:=hll j x v hN j2 hv
   obtain⟨a,ha⟩:=hhas x (.inr hfree)
   rcases lk with ⟨z,_⟩|⟨_,a',z1,z2⟩
   ·exact absurd z hnl
   ·obtain rfl:a'=a:=by have qq:=hcl x a ha;rw[z1] at qq;exact Option.some.inj qq
    exact⟨u,a',ru,hfree,ha,cellK x a' _ z1 z2⟩
  ·unfold cN;rw[length_map];exact hlen
 ·exact⟨Z,ok',fun H'' e'' ok''=>kk (.v (.str nm)) (.str nm) Z H'' (ex.trans (e'.trans e'')) ⟨ok'',S1.rho.ext mu (e'.trans e'')⟩ (Rp.str nm) q'⟩
 ·cases r with
  |error e=>exact hq'.elim
  |ok fl=>
   cases fl with
   |ret u=>exact I1.after hq'
   |next=>exact hq'.elim
   |brk=>exact hq'.elim
   |cont=>exact hq'.elim
end L2.DL
namespace L2
open PySem PySem.Spec PyProof.Rows DL
noncomputable def UB(tabs:List Addr)(H:Hp):Prop:=∀b,H b=none\/(∃o xs,H b=some (.frz o (.lst xs)))\/(b∈tabs/\H b=some (.tbl #[]))
theorem K0{P:Program}{w:World}{K:PySem.W.Frag}{mg mb:Str->Option Value}{CX:CXT}{k:Nat}{fa a:Addr}{fd:FuncData}{x:Str}{sp:Sp}{dl:Shared}{vs:List Value}{ns:List Int}(tabs:List Addr)
  (hT:∀p∈tabs,dl.heap.get? p=some (tabObj #[])/\K.lookup p=none) (hA2:∀c o p q,K.lookup c=some o->bJ o=some (p,q)->p∈tabs) (hC:∀p∈tabs,isCodeTable dl.heap p)
  (KX:K.In dl.heap) (hns:dl.heap.Ns mainGlobals mg) (hb:dl.heap.Ns builtinsNs mb) (hbb:∀x:Str,x ≠ "__name__"->mb x=bootBuiltins x) (hlim:dl.heap.NoLimit) (hg:dl.gens = #[])
  (ha:dl.heap.get? a=some {cls:=.type "list",data:=.seq vs.toArray}) (hi:IntsAre vs ns) (hl:ns.length<=sizeLine) (hr:fJ k callerA)
  (F:∀base:Heap,K.In base->base.Ns mainGlobals mg->iY P w K mg base CX k fa fd [x] sp) (hbind:∀(s:Shared) (u:Value),BindsTo s fd ⟨[u],[]⟩ [(x,u)])
  (hsp:∀H:Hp,Ar K H->SqL K H a (ns.map V.int)->sp [.ref a] H (fun v _=>v = .bl true) fun _ _ _=>False)
  (hCX:∀H e s',CX [] H dl (fun _ _ _=>False) e s'->False) :
  codeAny (model P w) callerA (.call (.ref fa) ⟨[.ref a],[]⟩) (fun r s'=>r = .ok (.ret (.bool true))/\OldK dl.heap s'.heap/\s'.os=dl.os/\AllBare s'.gens) dl:=by
 have rv:=B6 hi
 have lenV:=hi.length
 have ant:a ∉ tabs:=fun z=>by have:=(hT a z).1;rw[ha] at this;cases this
 have core:∀H:Hp,UB tabs H->SqL K H a (ns.map V.int)->HOk P w H dl.heap->(∀b,H b≠none->b=a\/b∈tabs)->(H a≠none->K.lookup a=none)->(∀p∈tabs,H p=some (.tbl #[])) ->
   codeAny (model P w) callerA (.call (.ref fa) ⟨[.ref a],[]⟩) (fun r s'=>r = .ok (.ret (.bool true))/\OldK dl.heap s'.heap/\s'.os=dl.os/\AllBare s'.gens) dl:=by
  intro H hO hS hok hA hK hP
  have base_of:∀{b:Addr} {o:Obj},dl.heap.get? b=some o->H b=none->(Cr dl.heap H).get? b=some o:=fun e n=>LU e n
  have noA:∀{b:Addr} {o:Obj} {es:Array DictEntry} {ep:Nat},dl.heap.get? b=some o->o.data = .dict es ep->H b=none:=fun {b o es ep} e d=>by
   cases q:H b with
   |none=>rfl
   |some u=>
    rcases hA b (by rw[q];simp) with e'|e'
    ·subst e'
     rw[ha] at e;cases e
     have d':Data.seq vs.toArray _=Data.dict es ep:=d
     cases d'
    ·rw[(hT b e').1] at e;cases e
     have d':Data.fields #[]=Data.dict es ep:=d
     cases d'
  have nsK:∀{b:Addr} {m:Str->Option Value},dl.heap.Ns b m->(Cr dl.heap H).Ns b m:=fun {b m} ⟨o,es,ep,e,d,r⟩=>⟨o,es,ep,base_of e (noA e d),d,r⟩
  have hKb:K.In (Cr dl.heap H):=fun b o e=>base_of (KX b o e) (by
   cases q:H b with
   |none=>rfl
   |some u=>
    rcases hA b (by rw[q];simp) with e'|e'
    ·subst e'
     rw[hK (by rw[q];simp)] at e;cases e
    ·have e2:=e;rw[show K.lookup b=none from (hT b e').2] at e2;cases e2)
  have hM:Mod K mg (Cr dl.heap H):=⟨hKb,nsK hns,⟨mb,nsK hb,hbb⟩,let ⟨mc,h1,h2⟩:=hlim;⟨mc,nsK h1,h2⟩⟩
  have e0:Gv P w K mg (Cr dl.heap H) callerA [] dl H:=⟨rfl,hM,fun b o e=>NX e,Nat.le_of_eq (K8 _ _),trivial,fun b hb=>absurd (show b∈([]:List Addr) from hb) (by simp),hok,.of_eq hg⟩
  have tb:Ar K H:=fun c o p q h1 h2=>⟨#[],hP p (hA2 c o p q h1 h2),trivial,fun pos cv e=>by simp[codeAmong] at e⟩
  refine codeAny_mono ((F _ hKb (nsK hns)).run callerA [] dl H ⟨[.ref a],[]⟩ [.ref a] [.ref a] _ _ hr e0 (hbind dl (.ref a)) (.cons rfl .nil) (hsp H tb hS)) fun r s' h=>?_
  cases r with
  |error e=>exact (hCX H e s' h).elim
  |ok fl=>
   cases fl with
   |next=>exact False.elim h
   |brk=>exact False.elim h
   |cont=>exact False.elim h
   |ret u=>
    obtain⟨v,H',os,bare,un,hok',r',q⟩:=h
    have q':v = .bl true:=q
    subst q'
    obtain rfl:u=Value.bool true:=r'
    refine⟨rfl,⟨fun b o e=>?_,fun b o e=>un.there b o e (by simp)⟩,os,bare⟩
    cases q:H b with
    |none=>exact .inl (un.keep b o e q (by intro z;exact absurd (show b∈([]:List Addr) from z) (by simp)) (by simp))
    |some u=>
     rcases hO b with z|⟨ob,xs,z⟩|⟨zt,z⟩
     ·rw[q] at z;cases z
     ·have z2:=un.qv b ob _ z
      obtain⟨e1,_⟩:=hok b _ z
      obtain⟨e2,_⟩:=hok' b _ z2
      rw[e] at e1;cases e1
      exact .inl e2
     ·obtain⟨more,z2⟩:=un.qr b _ z
      have e2:s'.heap.get? b=some {cls:=.none,data:=.fields (#[]++more)}:=hok' b _ z2
      have e1:=(hT b zt).1
      rw[e] at e1;cases e1
      exact .inr (.inl ⟨hC b zt,rfl,#[],more,rfl,e2⟩)
 have okT:∀p∈tabs,dl.heap.get? p=some {cls:=.none,data:=.fields #[]}:=fun p hp=>(hT p hp).1
 cases hk:K.lookup a with
 |some o=>
  have e:=KX a o hk
  rw[ha] at e
  cases e
  refine core (fun b=>if b∈tabs then some (.tbl #[]) else none) (fun b=>?_) (.inr ⟨_,vs.toArray,_,hk,rfl,rfl,rfl,by rw[size_toArray,lenV];exact hl,by simpa using rv⟩) (fun b u z=>?_) (fun b z=>?_) (fun z=>absurd (if_neg ant) z) (fun p hp=>if_pos hp)
  ·by_cases hb:b∈tabs
   ·exact .inr (.inr ⟨hb,if_pos hb⟩)
   ·exact .inl (if_neg hb)
  ·by_cases hb:b∈tabs
   ·have z':=(if_pos hb).symm.trans z;cases z';exact okT b hb
   ·have z':=(if_neg hb).symm.trans z;cases z'
  ·by_cases hb:b∈tabs
   ·exact .inr hb
   ·exact absurd (if_neg hb) z
 |none=>
  refine core (fun b=>if b=a then some (.frz {cls:=.type "list",data:=.seq vs.toArray} (.lst (ns.map V.int))) else if b∈tabs then some (.tbl #[]) else none) (fun b=>?_) (.inl (.inr ⟨{cls:=.type "list",data:=.seq vs.toArray},if_pos rfl⟩)) (fun b u z=>?_) (fun b z=>?_) (fun _=>hk) (fun p hp=>by
   have:p≠a:=fun y=>ant (by rw[<- y];exact hp)
   exact (if_neg this).trans (if_pos hp))
  ·by_cases hb:b=a
   ·exact .inr (.inl ⟨_,_,if_pos hb⟩)
   ·by_cases hb2:b∈tabs
    ·exact .inr (.inr ⟨hb2,(if_neg hb).trans (if_pos hb2)⟩)
    ·exact .inl ((if_neg hb).trans (if_neg hb2))
  ·by_cases hb:b=a
   ·have z':=(if_pos hb).symm.trans z
    cases z'
    subst hb
    exact⟨ha,by rw[length_map];exact hl,vs,_,rv,ha⟩
   ·by_cases hb2:b∈tabs
    ·have z':=((if_neg hb).trans (if_pos hb2)).symm.trans z;cases z';exact okT b hb2
    ·have z':=((if_neg hb).trans (if_neg hb2)).symm.trans z;cases z'
  ·by_cases hb:b=a
   ·exact .inl hb
   ·by_cases hb2:b∈tabs
    ·exact .inr hb2
    ·exact absurd ((if_neg hb).trans (if_neg hb2)) z
theorem Ma{l:PySem.W.OpenLaw}{n k:Nat}{q:Program}{loose:List Str}{XP:(Str->Option Value)->Heap->Prop}{YP:World->Heap->Prop}{d:DefRec}{K:Params->PySem.W.Frag}{CX:World->CXT}{sp:World->Sp}{x:Str}(tabs:List Addr)
  (hn:l.most=some n) (hn2:n<=sizeLine) (hdf:d.params.defaults=[]) (hr:fJ k callerA)
  (hY:∀(w:World) (h:Heap),YP w h->(K w.params).In h/\(∀p∈tabs,h.get? p=some (tabObj #[])/\(K w.params).lookup p=none)/\(∀p∈tabs,isCodeTable h p))
  (hA2:∀(w:World) c o p q,(K w.params).lookup c=some o->bJ o=some (p,q)->p∈tabs)
  (F:∀(w:World) (mg:Str->Option Value) (fa:Addr) (h:Heap),(K w.params).In h->h.Ns mainGlobals mg->mg d.name=some (.ref fa) ->
   ∃fd:FuncData,(∀(s:Shared) (u:Value),BindsTo s fd ⟨[u],[]⟩ [(x,u)]) /\
    ∀base:Heap,(K w.params).In base->base.Ns mainGlobals mg->iY l.prog w (K w.params) mg base (CX w) k fa fd [x] (sp w))
  (hsp:∀(w:World) (H:Hp) (a:Addr) (ns:List Int),ns.length<=n->Ar (K w.params) H->SqL (K w.params) H a (ns.map V.int)->sp w [.ref a] H (fun v _=>v = .bl true) fun _ _ _=>False)
  (hCX:∀(w:World) (H:Hp) (s:Shared) (e:Value) (s':Shared),CX w [] H s (fun _ _ _=>False) e s'->False) :
  PySem.W.WalkO q loose XP YP l.row.toRowW d [] (fun f vs=>PySem.call f vs):=by
 refine Att.E7 hn hdf fun w gl dl mg mb fa o pm cd doc a vs ns G Y ho hd hcd hmg hobj hints hlen hg=>?_
 obtain⟨KX,hT,hC⟩:=hY w _ Y
 obtain⟨fd,hb,hF⟩:=F w mg fa _ KX G.T.g hmg
 exact K0 tabs hT (hA2 w) hC KX G.T.g G.T.b G.T.builtins G.T.nolimit hg hobj hints (le_trans hlen hn2) hr hF hb (fun H hO hS=>hsp w H a ns hlen hO hS) fun H e s'=>hCX w H dl e s'
end L2
namespace L2.DL
open PySem PySem.Spec PyProof.Rows
theorem _root_.L2.Fun.U5{P:Program}{w:World}{K:PySem.W.Frag}{mg:Str->Option Value}{base:Heap}{x qual:Str}{st:Stmt}{f:Addr}{fd:FuncData}{N ps:List Str}{k:Nat}{dsp:DSp}(F:Fun K x qual st f fd)(S:aE N ps (aw st))(len:∀ds U Q,dsp ds U Q->ds.length=ps.length)
  (hbody:∀(cdv:Value),fd.code=cdv->∀(A:Around) (outer:List Env) (s:Shared) (H:Hp) (E:XK),fJ k (A.deeper (envOfC qual (aw st) s.heap.objs.size f cdv)) ->
   ∃td,DSs (kL CX0 P w K mg base N qual (aw st) f cdv A outer s H E).nox (dH st) td/\∀ds U Qd,dsp ds U Qd->td ‹Qd› (aK N ds) U):iY P w K mg base CX0 (k+1) f fd ps (spD K dsp):=by
 obtain⟨oc,od,kV,doc,pm,an,cdv,ct,osl,rfl,lk,hcd⟩:=F.ex
 refine Ni lk hcd S (fun vs H Q E h=>?_) fun A outer s H vs Q E hr h=>?_
 ·obtain⟨ds,U,Qd,_,r,h,_⟩:=h
  rw[<- r.length];exact len ds U Qd h
 ·obtain⟨ds,U,Qd,ok,r,h,fin⟩:=h
  obtain⟨td,⟨t,p,l⟩,rd⟩:=hbody cdv rfl A outer s H E hr
  exact⟨t,p.nox,l (start N vs) H (aK N ds) U _ _ ⟨ok,vh r⟩ (rd ds U Qd h) (fun bn ce Z H' e' S' q=>fin (.v .none) .non Z H' e' S'.mu Rp.none q) (fun d u Z H' e' ok' r' q=>fin d u Z H' e' ok' r' q) (fun _ _ _ _ _ _ q=>q) (fun _ _ _ _ _ _ q=>q)⟩
noncomputable def Qo(X:Cx)(lsc:Scope):Option Nat->Str->Prop
 |some j,x=>X.N[j]? = some x/\Vis X.env.scope x/\X.env.kindOf x≠some .local/\lsc.names.lookup x=some .free
 |none,_=>True
noncomputable def Tp(X:Cx)(lsc:Scope):List (Option Nat)->List Str->Prop
 |c::r,x::r'=>Qo X lsc c x/\Tp X lsc r r'
 |_,_=>True
theorem JJ{X:Cx}{lsc:Scope}:∀{cap:List (Option Nat)} {N':List Str},Tp X lsc cap N'->∀(i j:Nat) (x:Str),cap[i]? = some (some j)->N'[i]? = some x->X.N[j]? = some x/\Vis X.env.scope x/\X.env.kindOf x≠some .local/\lsc.names.lookup x=some .free
 |[],_,_,i,j,x,h,_=>by simp at h
 |_::_,[],_,i,j,x,_,h=>by simp at h
 |c::r,y::r',h,0,j,x,h1,h2=>by
  simp at h1 h2;subst h1 h2;exact h.1
 |c::r,y::r',h,i+1,j,x,h1,h2=>JJ h.2 i j x (by simpa using h1) (by simpa using h2)
theorem Ia{X:Cx}{lsc:Scope}{j:Nat}{x:Str}(h1:X.N[j]? = some x:=by rfl)(h2:X.env.kindOf x=some .cell:=by rfl)(h3:lsc.names.lookup x=some .free:=by rfl):Qo X lsc (some j) x:=
 ⟨h1,.inr (.inl h2),(by rw[h2];decide),h3⟩
theorem Jp{K:PySem.W.Frag}{l:List (Addr×Str)}(h:(K.filterMap fun p=>bJ p.2)=l){c:Addr}{o:Obj}{P:Addr}{q:Str}(e:K.lookup c=some o)(e2:bJ o=some (P,q)):(P,q)∈l:=by
 rw[<- h]
 have mem:∀(L:List (Addr×Obj)),List.lookup c L=some o->(c,o)∈L:=fun L=>by
  induction L with
  |nil=>intro z;cases z
  |cons a r ih=>
   intro z
   rw[lookup_cons] at z
   by_cases y:c=a.1
   ·rw[y] at z ⊢;simp at z;rw[<- z];exact mem_cons_self
   ·rw[show (c==a.1)=false from by simpa using y] at z
    exact mem_cons_of_mem _ (ih z)
 exact List.mem_filterMap.mpr ⟨(c,o),mem K e,e2⟩
theorem BC{K:PySem.W.Frag}{h:Heap}{c P:Addr}{o:Obj}{q:Str}(X:K.In h)(l:K.lookup c=some o)(e:bJ o=some (P,q)):isCodeTable h P:=by
 have ho:=X _ _ l
 unfold bJ at e
 split at e
 ·rename_i cn vs hcls hd
  split at e
  ·rename_i hcn
   subst hcn
   split at e
   ·rename_i e11 e18
    split at e
    ·cases e
     exact⟨c,o,vs,ho,hcls,hd,by assumption⟩
    ·cases e
   ·cases e
  ·cases e
 ·cases e
theorem Dz{K:PySem.W.Frag}{c P:Addr}{q:Str}(h:(K.lookup c).bind bJ=some (P,q)):∃o,K.lookup c=some o/\bJ o=some (P,q):=Option.bind_eq_some_iff.mp h
theorem C6{K T:PySem.W.Frag}{h:Heap}(X:PySem.W.Frag.In (K++T) h):K.In h:=fun b o e=>X b o (by
 show List.lookup b (K++T)=some o
 rw[List.lookup_append,show List.lookup b K=some o from e];rfl)
theorem Q3{K:PySem.W.Frag}{mg:Str->Option Value}{bm:Addr}{sl:Array (Option Value)}(h1:mg "__builtins__"=some (.ref bm))(h2:bm≠builtinsNs)(h3:K.lookup bm=some ⟨.type "module",some builtinsNs,.plain,sl⟩):Rh K mg:=⟨bm,_,h1,h2,h3,rfl,rfl,rfl⟩
theorem MJ{cap:List (Option Nat)}{tx:DTX}{nm:Str}{ρ:Rho}{U:Mu}{Q:DK}:D7 cap tx nm ρ U Q=tx (cN cap ρ) U (fun Z=>Q (.v (.str nm)) Z):=propext Iff.rfl
theorem PF{dsp:XSp}{t:DTA}{ρ:Rho}{U:Mu}{Xk:Mu->Prop}:Lz dsp t ρ U Xk=t ρ U (fun ds ad=>dsp ds ad Xk):=propext Iff.rfl
theorem SR{tc:DTT}{tx ty:DTX}{ρ:Rho}{U:Mu}{Xk:Mu->Prop}:xIf tc tx ty ρ U Xk=tc ρ U (fun b ad=>if b=true then tx ρ ad Xk else ty ρ ad Xk):=propext Iff.rfl
theorem vm{td:DTS}{tx:DTX}{ρ:Rho}{U:Mu}{Xk:Mu->Prop}:Fz td tx ρ U Xk=td {nx:=fun ce Z=>tx ce Z Xk,rt:=fun _ _=>False} ρ U:=propext Iff.rfl
theorem TK{ea:Addr}{b:Bool}{i:Nat}{ρ:Rho}{U:Mu}{Q:DK}(h:ρ[i]? = some (some (.o ea))):nM ea b (ah i) ρ U Q=Q (.v (.bool b)) U:=by
 unfold nM ah
 rw[h]
 exact propext ⟨fun z=>z.2,fun z=>⟨rfl,z⟩⟩
theorem My{ea:Addr}{b:Bool}{x:Option D}{r:Rho}{U:Mu}{Q:DK}:nM ea b (ah 1) (x::some (.o ea)::r) U Q=Q (.v (.bool b)) U:=TK rfl
noncomputable def Ly:PyData->Option PyData
 |.tuple [.str n,.bool b]=>if b=true then some (.str n) else none
 |_=>none
theorem MG{r:Rho}{U:Mu}{Q:DK}{ns:List (Str×Bool)}{i:Nat}(hi:r[i]? = some (some (.v (.list (ns.map fun n=>.tuple [.str n.1,.bool n.2])))))(hl:ns.length<=1000)(q:Q (.v (.list ((ns.map fun n=>(.tuple [.str n.1,.bool n.2]:PyData)).filterMap Ly))) U) :
  ie [none,none] (fS (ah i)) (cC 2 (aC (aq 0) (aC (aq 1) cF))) (dB (ah 1)) (ah 0) r U Q:=by
 rw[j8]
 show (match r[i]? with|some (some d)=>_|_=>False)
 rw[hi]
 refine⟨by rw[length_map];exact hl,fun p hp=>⟨fun i acc Z=>acc=((ns.map fun n=>(.tuple [.str n.1,.bool n.2]:PyData)).take i).filterMap Ly/\Z=aR U p acc,⟨rfl,rfl⟩,?_,?_⟩⟩
 ·rintro i x acc Z hx hpa ⟨e0,e1⟩
  obtain⟨n,hn,rfl⟩:=List.mem_map.mp (mem_of_getElem? hx)
  have st:=H0 (f:=Ly) hx
  obtain⟨n,b⟩:=n
  refine⟨rfl,⟨trivial,?_⟩⟩
  show if b=true then _ else _
  cases b with
  |true=>
   rw[if_pos rfl]
   refine⟨hpa,?_,?_⟩
   ·rw[st,<- e0];rfl
   ·rw[e1,ic]
  |false=>
   rw[if_neg ⋯]
   refine⟨hpa,?_,e1⟩
   rw[st,<- e0];simp[Ly]
 ·rintro acc Z ⟨e0,e1⟩ hpa
  rw[take_length] at e0
  rw[e1,e0,p5 hp]
  exact q
noncomputable def QT(ds:List D):PQ:=fun K u U H=>∃a us,u = .ref a/\H a=some (.tup us)/\jO K U H ds us
mutual
theorem Rp.sub{K:PySem.W.Frag}{U ad:Mu}{H:Hp}(h:∀a,ad a=none->U a=none):∀{d:PyData} {u:V},Rp K ad H d u->Rp K U H d u
 |_,_,.none=>.none
 |_,_,.bool b=>.bool b
 |_,_,.int i=>.int i
 |_,_,.str x=>.str x
 |_,_,.list a b c=>.list a (h _ b) (RpL.sub h c)
 |_,_,.tuple a c=>.tuple a (RpL.sub h c)
theorem RpL.sub{K:PySem.W.Frag}{U ad:Mu}{H:Hp}(h:∀a,ad a=none->U a=none):∀{ds:List PyData} {us:List V},RpL K ad H ds us->RpL K U H ds us
 |_,_,.nil=>.nil
 |_,_,.cons a b=>.cons (Rp.sub h a) (RpL.sub h b)
end
structure hZ(U Z:Mu):Prop where
 l:∀b ds,U b=some ds->Z b=some ds
 b:∀b c,U.b b=some c->Z.b b=some c
noncomputable instance {U Z:Mu}:CoeFun (hZ U Z) fun _=>∀b ds,U b=some ds->Z b=some ds:=⟨hZ.l⟩
theorem hZ.refl{U:Mu}:hZ U U:=⟨fun _ _ e=>e,fun _ _ e=>e⟩
theorem hZ.none{U Z:Mu}(h:hZ U Z){b:Addr}(e:Z b=none):U b=none:=by
 cases z:U b with
 |none=>rfl
 |some ds=>rw[h b ds z] at e;cases e
theorem zR{K:PySem.W.Frag}{U Z:Mu}{H:Hp}(ok:bC K Z H)(s:hZ U Z):bC K U H:=⟨fun a ds z=>by
 obtain⟨xs,h1,h2⟩:=ok.lst a ds (s a ds z)
 exact⟨xs,h1,h2.sub fun b hb=>s.none hb⟩,ok.tab,fun a c z=>by
 obtain⟨y,o,h1,h2⟩:=ok.box a c (s.b a c z)
 exact⟨y,o,h1,h2.shrink fun b hb=>s.none hb⟩⟩
theorem hZ.set{U Z:Mu}{p:Addr}{ds:List PyData}(h:hZ U Z)(n:U p=Option.none):hZ U (aR Z p ds):=⟨fun b es e=>by
 have:b≠p:=fun z=>by rw[z,n] at e;cases e
 rw[aT this];exact h b es e,h.b⟩
theorem hZ.box{U Z:Mu}{p:Addr}{c:Box}(h:hZ U Z)(n:U.b p=Option.none):hZ U (bP Z p c):=⟨h.l,fun b x e=>by
 have:b≠p:=fun z=>by rw[z,n] at e;cases e
 rw[bT this];exact h.b b x e⟩
noncomputable def frz(U:Mu)(Qd:DK):DK:=fun d Z=>match d with
 |.v x=>hZ U Z/\Qd (.v x) U
 |.m a=>(U a=none/\hZ U Z)/\∃es,Z a=some es/\Qd (.v (.list es)) U
 |_=>False
theorem HD{P:Program}{w:World}{K:PySem.W.Frag}{mg:Str->Option Value}{base:Heap}{CX:CXT}{k:Nat}{f:Addr}{fd:FuncData}{ps:List Str}{sp sp':DSp}(F:iY P w K mg base CX k f fd ps (spD K sp))
  (h:∀ds U Qd,sp' ds U Qd->sp ds U (frz U Qd)):iY P w K mg base CX k f fd ps (spD K sp'):=by
 refine F.imp fun vs H Q E h'=>?_
 obtain⟨ds,U,Qd,ok,r,s,kk⟩:=h'
 refine⟨ds,U,_,ok,r,h _ _ _ s,fun d u Z H' e ok' rd q=>?_⟩
 cases d with
 |v x=>
  obtain⟨sb,q⟩:=q
  exact kk (.v x) u U H' ⟨e.keep,e.tb,fun b ds z=>⟨ds,z⟩,fun _ z _=>z,e.st,fun _ c z=>⟨c,z⟩⟩ (zR ok' sb) (show Rp K U H' x u from (show Rp K Z H' x u from rd).sub fun b hb=>sb.none hb) q
 |m a=>
  obtain⟨⟨n,sb⟩,es,he,q⟩:=q
  obtain⟨rfl,_⟩:=rd
  obtain⟨xs,h1,h2⟩:=ok'.lst a es he
  exact kk (.v (.list es)) (.ref a) U H' ⟨e.keep,e.tb,fun b ds z=>⟨ds,z⟩,fun _ z _=>z,e.st,fun _ c z=>⟨c,z⟩⟩ (zR ok' sb) (show Rp K U H' (.list es) (.ref a) from .list h1 n (h2.sub fun b hb=>sb.none hb)) q
 |s ns=>exact q.elim
 |o a=>exact q.elim
 |b a=>exact q.elim
 |q p=>exact q.elim
end L2.DL
namespace L2
open PySem PySem.W PyProof.Rows
end L2
namespace L2.DL
open PySem PySem.Spec PyProof.Rows
end L2.DL
namespace L2
open PySem PySem.W PyProof.Rows
section
variable {X:Cx}
theorem Um{pins:List (Addr×Obj)}{σ:St}{H:Hp}{s:Shared}(I:Inv X pins σ H s):X.K.lookup s.heap.objs.size=none:=by
 cases c:X.K.lookup s.heap.objs.size with
 |none=>rfl
 |some o=>exact absurd (Heap.lt_size (I.kIn _ _ c)) (lt_irrefl _)
theorem G8:jc X (.type "list") (fun xs H Q=>∃p ys,xs=[.ref p]/\(SqL X.K H p ys\/SqT X.K H p ys)/\∀l,H l=none->X.K.lookup l=none->Q (.ref l) (upd H l (.lst ys))):=by
 intro pins s σ H xs us Q I r h
 obtain⟨p,ys,rfl,hq,q⟩:=h
 have hk:=Um I
 obtain⟨u,rfl,rx⟩:=vals1 r
 cases rx
 have go:∀(A:Around) (E:Value->Shared->Prop) (its:List Value),Vals ys its->ys.length<=sizeLine->∀(o:Obj) (n:Nat),(o.cls = .type "list"\/o.cls = .type "tuple")->s.heap.get? p=some o->o.data = .seq its.toArray n->wpAny (model X.prog X.w) A (call (.type "list") [.ref p]) (EP X pins σ Q) E s:=fun A E its rv hz o n hc ho hd=>by
  have hlen:=rv.length
  rcases hc with hc|hc
  ·refine call_list_seq p (.inl rfl) ho hc hd (fun h' c' kp e=>⟨.ref s.heap.objs.size,_,I.laid (t':=s.toks) kp (Nat.le_refl _) ?_,rfl,q _ (I.hok.fresh (Nat.le_refl _)) hk⟩) (by rw[size_toArray];omega)
   exact⟨hz,its,c',rv,e⟩
  ·refine call_list_seq p (.inr rfl) ho hc hd (fun h' c' kp e=>⟨.ref s.heap.objs.size,_,I.laid (t':=s.toks) kp (Nat.le_refl _) ?_,rfl,q _ (I.hok.fresh (Nat.le_refl _)) hk⟩) (by rw[size_toArray];omega)
   exact⟨hz,its,c',rv,e⟩
 rcases hq with hq|hq
 ·obtain⟨its,rv,pl,hz⟩:=I.list hq
  obtain⟨o,ho,hc,n,hd⟩:=pl.isList
  exact go _ _ its rv hz o n (.inl hc) ho hd
 ·obtain⟨its,rv,pl,hz⟩:=I.tuple hq
  obtain⟨o,ho,hc,n,hd⟩:=pl
  exact go _ _ its rv hz o n (.inr hc) ho hd
end
end L2
namespace L2.DL
open PySem PySem.Spec PyProof.Rows
noncomputable def DP:List D->Mu->DK->Prop:=fun xs U Q=>match xs with
 |[.v (.list ys)]=>∀p,U p=none->Q (.m p) (aR U p ys)
 |[.v (.tuple ys)]=>∀p,U p=none->Q (.m p) (aR U p ys)
 |[.m a]=>∃ys,U a=some ys/\∀p,U p=none->Q (.m p) (aR U p ys)
 |_=>False
theorem Nf{K:PySem.W.Frag}:nQ K (fun xs H Q=>∃p ys,xs=[.ref p]/\(SqL K H p ys\/SqT K H p ys)/\∀l,H l=none->K.lookup l=none->Q (.ref l) (upd H l (.lst ys))) DP:=by
 intro xs us H U Qd Q ok rs h k
 have fin:∀(ys:List PyData) (vs:List V),RpL K U H ys vs->(∀p,U p=none->Qd (.m p) (aR U p ys))->∀l,H l=none->K.lookup l=none->Q (.ref l) (upd H l (.lst vs)):=fun ys vs r q l hl hk=>
  k (.m l) _ (aR U l ys) _ (qj (o:=.lst vs) (ds:=ys) ok hl hk) (ok.mut r hl hk) ⟨rfl,ys,aM⟩ (q l (ok.free hl))
 unfold DP at h
 split at h
 ·cases rs with
  |cons r1 r2=>
   cases r2
   cases r1 with
   |list hs hn r=>exact⟨_,_,rfl,.inl (SqL.of hs),fin _ _ r h⟩
 ·cases rs with
  |cons r1 r2=>
   cases r2
   cases r1 with
   |tuple hs r=>exact⟨_,_,rfl,.inr hs,fin _ _ r h⟩
 ·cases rs with
  |cons r1 r2=>
   cases r2
   obtain⟨ys,hm,h⟩:=h
   obtain⟨rfl,_⟩:=r1
   obtain⟨vs,hl,r⟩:=ok.lst _ ys hm
   exact⟨_,_,rfl,.inl (SqL.of hl),fin _ _ r h⟩
 ·exact h.elim
theorem MO{X:Cx}{e:Expr}{es:List Expr}{t:DTA}{pos p:Pos}(hg:Gl X "list")(hm:X.mg "list"=none)(ha:DA X (e::es) t)
  (he:starEach (e::es) X.env=(false,eval e X.env)::starEach es X.env:=by rfl) (hpl:(backTo pos (starEach es X.env)).any (·.1)=false:=by rfl):DE X (.Call (.Name "list" p) (e::es) [] pos) (dCB DP t):=
 vv G8 Nf hg hm PyProof.Rows.Boot.«list» ha ⋯ ⋯ he hpl
end L2.DL
namespace L2
open PySem PySem.Spec PyProof.Rows
end L2
namespace L2.DL
open PySem PySem.W PyProof.Rows
open PySem PySem.Spec PyProof.Rows
noncomputable def zu(U:Mu)(a:Addr):Mu:=⟨fun b=>if b=a then none else U b,U.b⟩
theorem zC{U:Mu}{a:Addr}:zu U a a=none:=if_pos rfl
theorem sO{U:Mu}{a b:Addr}(h:b≠a):zu U a b=U b:=if_neg h
noncomputable def SS(U:Mu)(Qd:DK):DK:=fun d Z=>match d with
 |.v x=>Qd (.v x) Z
 |.m a=>U a=none/\∃es,Z a=some es/\Qd (.v (.list es)) (zu Z a)
 |_=>False
theorem Ot{P:Program}{w:World}{K:PySem.W.Frag}{mg:Str->Option Value}{base:Heap}{CX:CXT}{k:Nat}{f:Addr}{fd:FuncData}{ps:List Str}{sp sp':DSp}(F:iY P w K mg base CX k f fd ps (spD K sp))
  (h:∀ds U Qd,sp' ds U Qd->sp ds U (SS U Qd)):iY P w K mg base CX k f fd ps (spD K sp'):=by
 refine F.imp fun vs H Q E h'=>?_
 obtain⟨ds,U,Qd,ok,r,s,kk⟩:=h'
 refine⟨ds,U,_,ok,r,h _ _ _ s,fun d u Z H' e ok' rd q=>?_⟩
 cases d with
 |v x=>exact kk (.v x) u Z H' e ok' rd q
 |m a=>
  obtain⟨n,es,he,q⟩:=q
  obtain⟨rfl,_⟩:=rd
  obtain⟨xs,h1,h2⟩:=ok'.lst a es he
  have sb:hZ (zu Z a) Z:=⟨fun b ds z=>by
   by_cases c:b=a
   ·rw[c,zC] at z;cases z
   ·rw[sO c] at z;exact z,fun _ _ z=>z⟩
  refine kk (.v (.list es)) (.ref a) (zu Z a) H' ⟨e.keep,e.tb,fun b ds z=>?_,fun b z g=>?_,e.st,e.bx⟩ (zR ok' sb) (show Rp K (zu Z a) H' (.list es) (.ref a) from .list h1 zC (h2.sub fun b hb=>sb.none hb)) q
  ·have c:b≠a:=fun c=>by rw[c,n] at z;cases z
   rw[sO c];exact e.dom b ds z
  ·exact sb.none (e.fresh b z g)
 |s ns=>exact q.elim
 |o a=>exact q.elim
 |b _=>exact q.elim
 |q p=>exact q.elim
end L2.DL
namespace L2
open PySem PySem.Spec PyProof.Rows
end L2
namespace L2.DL
open PySem PySem.Spec PyProof.Rows
end L2.DL
namespace L2
open PySem PySem.Spec PyProof.Rows
section
variable {X:Cx}
noncomputable def Oq:V->List V->Hp->VK->Prop:=fun x vs H Q=>∃(l:Addr) (xs:List V) (i:Nat) (y:V),x = .ref l/\vs=[.int (i:Nat),y]/\H l=some (.lst xs)/\i<=xs.length/\xs.length<=1000/\Q .non (upd H l (.lst (xs.take i++y::xs.drop i)))
theorem Vals.ins{xs:List V}{us:List Value}{y:V}{u:Value}(h:Vals xs us)(r:RelV y u):∀i:Nat,Vals (xs.take i++y::xs.drop i) (us.take i++u::us.drop i):=by
 induction h with
 |nil=>intro i;simp;exact .cons r .nil
 |cons p t ih=>
  intro i
  cases i with
  |zero=>exact .cons r (.cons p t)
  |succ i=>exact .cons p (ih i)
theorem Kh:MtM X "list.insert" Oq:=by
 intro pins s σ H x vs v us Q I rx rv h
 obtain⟨l,xs,i,y,rfl,rfl,hH,hi,hz,q⟩:=h
 cases rx
 obtain⟨u1,u2,rfl,ru1,ru2⟩:=vals2 rv
 obtain⟨t,rfl⟩:=ru1
 obtain⟨z,its,n,r,hl,e⟩:=I.Gf hH
 have hs:(1000:Nat)<sizeLine:=by decide
 have fit:Builtin.List.listFitsIndex (i:Int)=true:=by
  unfold Builtin.List.listFitsIndex
  rw[and_eq_true,decide_eq_true_eq,decide_eq_true_eq]
  have p:(2:Int) ^ 63=9223372036854775808:=by decide
  rw[p]
  omega
 obtain⟨x,hx⟩:∃x:Int,x=(i:Int):=⟨_,rfl⟩
 rw[<- hx] at fit ⊢
 have hn:¬ (!Builtin.List.listFitsIndex x)=true:=by rw[fit];exact Bool.false_ne_true
 have hsz:its.toArray.size<=sizeLine:=by rw[size_toArray];omega
 have M:=AutoSeq1.list_insert_list_int_val_1 l its.toArray n x t u2 hn hsz
 refine call_meets F.slot_list_insert ⟨_,e,rfl⟩ F.entry_list_insert (F.args_list_insert_3 _ _ _) M ⟨e,?_⟩
 refine⟨.non,_,I.OM (its':=its.take i++u2::its.drop i) hH e ?_ (Vals.ins r ru2 i) ?_,rfl,q⟩
 ·dsimp only
  rw[if_neg ∅,hx,Int.toNat_natCast,size_toArray,Nat.min_eq_left ∅]
  apply Array.ext'
  simp
  exact take_of_length_le (by simp)
 ·simp
  omega
end
end L2
namespace L2.DL
open PySem PySem.Spec PyProof.Rows
section
variable {X:Cx}{o i e:Expr}{to ti te:DTE}{apos cpos:Pos}
theorem RpL.ins{K:PySem.W.Frag}{U:Mu}{H:Hp}{ds:List PyData}{us:List V}{d:PyData}{u:V}(q:Rp K U H d u):∀(i:Nat),RpL K U H ds us->RpL K U H (ds.take i++d::ds.drop i) (us.take i++u::us.drop i)
 |_,.nil=>by simp;exact .cons q .nil
 |0,.cons p t=>.cons q (.cons p t)
 |i+1,.cons p t=>.cons p (RpL.ins q i t)
noncomputable def Pk(to ti te:DTE):DTE:=fun ρ U Q=>to ρ U fun x ad=>match x with
 |.m l=>ti ρ ad fun z am=>te ρ am fun y bi=>∃(j:Nat) (d:PyData) (xs:List PyData),z = .v (.int (j:Nat))/\y = .v d/\bi l=some xs/\j<=xs.length/\xs.length<=1000/\Q (.v .none) (aR bi l (xs.take j++d::xs.drop j))
 |_=>False
theorem KC(ho:DE X o to)(hi:DE X i ti)(ha:DE X e te)(hbase:attributeBase o "insert" X.env (eval o X.env)=eval o X.env:=by rfl)
  (hfew:((backTo cpos (starEach [i,e] X.env)).all (fun x=>!x.1)&&(backToKw cpos (keywordEach [] X.env)).all (fun x=>x.1.isSome)
   && decide ([i,e].length+([]:List Keyword).length+(if ([]:List Keyword).isEmpty then 0 else 1)<30))=true:=by rfl)
  (hline:(apos.endLine==cpos.line)=true:=by rfl) (hs:starEach [i,e] X.env=(false,eval i X.env)::starEach [e] X.env:=by rfl) (hs2:starEach [e] X.env=(false,eval e X.env)::starEach [] X.env:=by rfl) (hplain:(backTo cpos (starEach [e] X.env)).any (·.1)=false:=by rfl) :
  DE X (.Call (.Attribute o "insert" apos) [i,e] [] cpos) (Pk to ti te):=by
 obtain⟨t1,p1,l1⟩:=ho
 obtain⟨t3,p3,l3⟩:=hi
 obtain⟨t2,p2,l2⟩:=ha
 refine⟨_,Lk PySem.F.plainAttrs_list PySem.F.slot_list_insert PySem.F.type_list_insert Kh p1 (eY p3 (eY p2 pB hs2) hs) hbase hfew hline hs hplain,fun σ H ρ U Qd Q S h k=>?_⟩
 refine l1 σ H ρ U _ _ S h fun x ux ad H1 e1 S1 rx h1=>?_
 cases x with
 |m l=>
  obtain⟨rfl,ds,hm⟩:=id rx
  obtain⟨us,hl,rl⟩:=S1.mu l ds hm
  refine⟨.inl ⟨rfl,us,SqL.of hl⟩,?_⟩
  refine l3 σ H1 ρ ad _ _ S1 h1 fun z uz am H2 e2 S2 rz h2=>?_
  refine l2 σ H2 ρ am _ _ S2 h2 fun y uy bi H3 e3 S3 ry h3=>?_
  obtain⟨j,d,xs,rfl,rfl,hx,hj,hz,q⟩:=h3
  obtain⟨us3,hl3,rl3⟩:=S3.mu l xs hx
  cases rz
  refine⟨l,us3,j,uy,rfl,rfl,hl3,by rw[<- rl3.length];exact hj,by rw[<- rl3.length];exact hz,?_⟩
  have ex:Ext X.K bi H3 (aR bi l (xs.take j++d::xs.drop j)) (upd H3 l (.lst (us3.take j++uy::us3.drop j))):=kd hx
  exact k (.v .none) .non _ _ (e1.trans (e2.trans (e3.trans ex))) ⟨S3.mu.set hx (rl3.ins ry j),S3.rho.ext S3.mu ex⟩ Rp.none q
 |v d=>exact h1.elim
 |s _=>exact h1.elim
 |o _=>exact h1.elim
 |b _=>exact h1.elim
 |q _=>exact h1.elim
theorem Tj{ρ:Rho}{U:Mu}{Q:DK}:Pk to ti te ρ U Q=to ρ U (fun x ad=>match x with
 |.m l=>ti ρ ad fun z am=>te ρ am fun y bi=>∃(j:Nat) (d:PyData) (xs:List PyData),z = .v (.int (j:Nat))/\y = .v d/\bi l=some xs/\j<=xs.length/\xs.length<=1000/\Q (.v .none) (aR bi l (xs.take j++d::xs.drop j))
 |_=>False):=propext Iff.rfl
end
end L2.DL
namespace L2
open PySem PySem.Spec PyProof.Rows
section
variable {X:Cx}
noncomputable def R0(x y:Str):Int:=match Builtin.Str.lastOccurrence x y 0 x.length with|some i=>(i:Nat)|none=>-1
end
end L2
namespace L2
open PySem PySem.Spec PyProof.Rows
end L2
namespace L2
open PySem PySem.Spec PyProof.Rows
end L2
namespace L2.DL
open PySem PySem.Spec PyProof.Rows
section
variable {X:Cx}{a b e e1 e2 o:Expr}{es:List Expr}{ta tb te to:DTE}{t:DTA}{pos p p2 apos cpos:Pos}{lo hi:Option Expr}
noncomputable def N9(x y:Str):Bool:=decide (0+y.length<=x.length)&&Builtin.Str.subAt x y 0
noncomputable def T9(x y:Str):Bool:=decide (0+y.length<=x.length)&&Builtin.Str.subAt x y (x.length-y.length)
end
section
variable {X:Cx}{a b e e1 e2 o tg:Expr}{es:List Expr}{ta tb te to:DTE}{t:DTA}{pos p p2 apos cpos:Pos}{lo hi:Option Expr}
noncomputable abbrev DTJ:=Str->Rho->Mu->(Str->Mu->Prop)->Prop
end
section
variable {X:Cx}{e o:Expr}{te to:DTE}{apos cpos:Pos}
noncomputable def JU(x y:Str):PyData:=.bool (N9 x y)
noncomputable def P9(x y:Str):PyData:=.bool (T9 x y)
noncomputable def NG(x y:Str):PyData:=.int (R0 x y)
end
noncomputable def Ite(K:PySem.W.Frag)(l:Addr):It:=
 ⟨fun i H=>∃xs x,SqL K H l xs/\xs[i]? = some x,
  fun i H v H'=>∃p x,v = .ref p/\H p=none/\H'=upd H p (.tup [.int i,x])/\(∀xs,SqL K H l xs->xs[i]? = some x),
  fun i H=>∃xs,SqL K H l xs/\xs.length<=i⟩
noncomputable def QF(e it l:Addr)(i:Nat)(h:Heap):Prop:=(∃old,IsEnum h e it i old)/\h.IsListIter it l i
theorem JZ{P:Program}{w:World}{K:PySem.W.Frag}{es:List Expr}{x1:Nat}{pos:Pos}(e it l:Addr)(hei:e≠it) :
  Turn true P w K (.Tuple es x1 pos) (Ite K l) [e,it] e (QF e it l) where
 mem:=by simp
 obj:=fun i h st b hb=>by
  obtain⟨⟨old,a1⟩,⟨o4,a4,c4,d4⟩⟩:=st
  simp only[mem_cons,not_mem_nil,or_false] at hb
  rcases hb with rfl|rfl
  ·exact⟨_,a1,fun v z=>by cases z⟩
  ·exact⟨_,a4,fun v z=>by rw[d4] at z;cases z⟩
 keep:=fun i h h' st k=>by
  obtain⟨⟨old,a1⟩,a4⟩:=st
  exact⟨⟨old,k e (by simp) _ a1⟩,a4.at fun o e=>k it (by simp) o e⟩
 item:=by
  intro X hP hw hK hc i pins s σ H E I hf st hg
  subst hP hw hK
  obtain⟨xs,x,hq1,hx⟩:=hg
  obtain⟨its1,rv1,p1,_⟩:=I.list hq1
  obtain⟨u,hu,ru⟩:=rv1.get hx
  obtain⟨⟨old,a1⟩,a4⟩:=id st
  refine wpAny_pyNext_enum_item a1 a4 p1.isList (x:=u) (by simpa using hu) hei fun h' b1 b2 b3 b4 b5=>?_
  refine⟨.ref s.heap.objs.size,rfl,wpAny_letOwnedTupleGo_enum (s:={s with heap:=h',toks:=s.toks+1}) b1 fun h2 c1 sb=>?_⟩
  have hne:s.heap.objs.size≠e:=Nat.ne_of_gt (Heap.lt_size a1)
  have hT:h2.get? s.heap.objs.size=some {cls:=.type "tuple",data:=.seq #[.int i s.toks,u]}:=sb.extBut _ _ hne b3
  refine⟨.ref s.heap.objs.size,upd H s.heap.objs.size (.tup [.int i,x]),?_,rfl,⟨s.heap.objs.size,x,rfl,I.hok.fresh (Nat.le_refl _),rfl,fun zs hz=>by rw[I.Fy hz hq1];exact hx⟩,?_,fun b hb=>?_⟩
  ·refine Inv.HC (s:=s) (h':=h2) (t':=s.toks+1) (ch:=[e,it]) I hf (fun b o hb e=>?_) (Nat.le_refl _) ⟨by show 2<=sizeLine;decide,[.int i s.toks,u],.cons ⟨_,rfl⟩ (.cons ru .nil),_,hT,rfl,0,rfl⟩
   simp only[mem_cons,not_mem_nil,or_false,not_or] at hb
   exact sb.extBut _ _ hb.1 (b5 b o hb.1 hb.2 e)
  ·exact⟨⟨_,by simpa using c1⟩,b2.at fun o e=>sb.extBut _ o (Ne.symm hei) e⟩
  ·have hb':b<s.heap.objs.size:=by
    simp only[mem_cons,not_mem_nil,or_false] at hb
    obtain⟨o4,e4,_⟩:=a4
    rcases hb with rfl|rfl
    ·exact Heap.lt_size a1
    ·exact Heap.lt_size e4
   rw[aP (ne_of_lt hb')]
   exact (hf b hb).1
 done:=by
  intro X hP hw hK hc i pins s σ H E I hf st hg
  subst hP hw hK
  obtain⟨xs,hq1,hx⟩:=hg
  obtain⟨its1,rv1,p1,_⟩:=I.list hq1
  obtain⟨⟨old,a1⟩,a4⟩:=id st
  have hl1:=rv1.length
  refine wpAny_pyNext_enum_end (I.ok.hd (hc rfl)) a1 a4 p1.isList (by simp;omega) fun h' b7=>⟨rfl,?_⟩
  refine Inv.Oo (t':=s.toks) (ch:=[e,it]) I hf fun b o hb e=>?_
  simp only[mem_cons,not_mem_nil,or_false,not_or] at hb
  exact b7 b o hb.2 e
 self:=fun _ _ _ _ _ st h=>by
  obtain⟨⟨old,a1⟩,_⟩:=st
  exact wpAny_pyIter_enum a1 h
section
variable {X:Cx}{es:List Expr}{x1:Nat}{tpos:Pos}
noncomputable def Tb(K:PySem.W.Frag)(ta:TA):TI:=fun σ H R=>ta σ H fun vs H1=>∃l,vs=[.ref l]/\(∃xs,SqL K H1 l xs)/\R (Ite K l) H1
theorem O1{a:Expr}{ta:TA}{p pos:Pos}(hc:X.calm=true)(hg:Gl X "enumerate")(hm:X.mg "enumerate"=none)(ha:PA X [a] ta)(hs:starEach [a] X.env=[(false,eval a X.env)]:=by rfl) :
  PI X (.Tuple es x1 tpos) (.Call (.Name "enumerate" p) [a] [] pos) (Tb X.K ta):=by
 intro pins s σ H R I h
 refine Call_ (rZ I hg hm PyProof.Rows.Boot.«enumerate» (PyProof.Rows.callWith_type1 (thn (ha pos pins s σ H _ I h) fun us s1 hq0=>?_) (by rw[hs];rfl) (by rfl)))
 obtain⟨vs,H1,I1,r1,q1⟩:=hq0
 obtain⟨l1,e,⟨xs,hq1⟩,q⟩:=q1
 subst e
 cases r1 with
 |cons r rr=>
  cases rr
  cases r
  obtain⟨its1,rv1,p1,_⟩:=I1.list hq1
  refine call_enumerate_list p1.isList fun h' hz hi1 hsz hk=>?_
  refine wpAny_pyIter_enum (s:={s1 with heap:=h'}) hz ?_
  refine⟨s1.heap.objs.size+1,[s1.heap.objs.size+1,s1.heap.objs.size],_,_,H1,rfl,I1.kept (t':=s1.toks) hk,(JZ _ _ l1 (Nat.succ_ne_self _)).calm hc,⟨⟨_,hz⟩,hi1⟩,fun b hb=>?_,q⟩
  have hb':s1.heap.objs.size<=b:=by
   simp only[mem_cons,not_mem_nil,or_false] at hb
   rcases hb with rfl|rfl
   ·exact Nat.le_add_right _ 1
   ·exact Nat.le_refl _
  exact I1.Lu hb' (I1.hok.fresh hb')
noncomputable def ke:Nat->List PyData->List PyData
 |_,[]=>[]
 |i,x::xs=>.tuple [.int i,x]::ke (i+1) xs
theorem Bm:∀{xs:List PyData} {j i:Nat} {x:PyData},xs[i]? = some x->(ke j xs)[i]? = some (.tuple [.int ((j+i:Nat):Int),x])
 |_::_,j,0,x,h=>by simp at h;subst h;rfl
 |_::xs,j,i+1,x,h=>by
  have:=Bm (xs:=xs) (j:=j+1) (i:=i) (x:=x) (by simpa using h)
  rw[show j+1+i=j+(i+1) by omega] at this
  exact this
 |[],j,i,x,h=>by simp at h
theorem vo:∀(j:Nat) (xs:List PyData),(ke j xs).length=xs.length
 |_,[]=>rfl
 |j,_::xs=>by show (ke (j+1) xs).length+1=xs.length+1;rw[vo]
noncomputable def DR(t:DTA):DTI:=fun ρ U Q=>t ρ U fun ds ad=>match ds with
 |[.v (.list xs)]=>Q (ke 0 xs) ad
 |_=>False
theorem IT{a:Expr}{t:DTA}{p pos:Pos}(hg:Gl X "enumerate")(hm:X.mg "enumerate"=none)(ha:DA X [a] t)(hs:starEach [a] X.env=[(false,eval a X.env)]:=by rfl)(hc:X.calm=true:=by rfl) :
  DI X (.Tuple es x1 tpos) (.Call (.Name "enumerate" p) [a] [] pos) (DR t):=by
 obtain⟨t1,p1,l1⟩:=ha
 refine⟨_,O1 hc hg hm p1 hs,fun σ H ρ U Qd R S h k=>?_⟩
 refine l1 σ H ρ U _ _ S h fun ds us ad H1 e1 S1 rs len h1=>?_
 split at h1
 ·rename_i xs
  cases rs with
  |cons r1 r2=>
   cases r2
   cases r1 with
   |@list a us _ ha hn ra=>
    refine⟨a,rfl,⟨us,SqL.of ha⟩,k (ke 0 xs) ad H1 _ e1 S1 (fun am H2 e2 ok2 i=>⟨fun hi=>?_,fun hi=>?_⟩) h1⟩
    ·rw[vo] at hi
     have ha2:=e2.keep _ _ ha hn trivial
     have i1:i<us.length:=by rw[<- ra.length];omega
     refine⟨⟨us,us[i],SqL.of ha2,by simp[i1]⟩,?_⟩
     rintro v H' ⟨p,x,rfl,hp,rfl,hx⟩
     obtain⟨u',h1',h2'⟩:=ra.get (i:=i) (d:=xs[i]'∅) (by simp)
     have z1:=hx us (SqL.of ha2)
     rw[h1'] at z1
     cases z1
     have eg:=Bm (xs:=xs) (j:=0) (i:=i) (x:=xs[i]'∅) (by simp)
     rw[Nat.zero_add] at eg
     refine⟨.tuple [.int i,xs[i]'∅],eg,F6 hp,?_⟩
     exact iq ok2 (.cons (Rp.int _) (.cons (h2'.ext S1.mu e2) .nil)) hp
    ·rw[vo] at hi
     have l1:=ra.length
     exact⟨us,SqL.of (e2.keep _ _ ha hn trivial),∅⟩
 ·exact h1.elim
theorem F9{t:DTA}{ρ:Rho}{U:Mu}{Q:List PyData->Mu->Prop}:DR t ρ U Q=t ρ U fun ds ad=>match ds with|[.v (.list xs)]=>Q (ke 0 xs) ad|_=>False:=propext Iff.rfl
end
open PySem PySem.Spec PyProof.Rows NM
theorem gk{n m:Nat}{i j:Int}(h:Sz n i)(g:Sz m j)(l:n+m<=100000):IntMulOk i j:=by
 have b1:∀{k:Nat} {z:Int},Sz k z->Builtin.Int.intBits z<=k:=fun {k z} hz=>by
  unfold Builtin.Int.intBits
  split
  ·exact zero_le _
  ·rename_i q
   have hz':z.natAbs≠0:=by simp at q;omega
   have:=(Nat.log2_lt hz').mpr hz.lt
   omega
 have e1:=b1 h
 have e2:=b1 g
 unfold IntMulOk
 intro z
 simp only[and_eq_true] at z
 have z3:=z.2
 unfold Builtin.Int.intTooBig at z3
 simp only[decide_eq_true_eq] at z3
 have:(100000:Int)<=bitsLine:=by decide
 omega
theorem B4{n:Nat}{i j:Int}(h0:j≠0)(h:Sz n j)(l:n<=8900):vW i j:=by
 refine⟨h0,PyProof.noPylong_of_log2 ?_⟩
 have hz':j.natAbs≠0:=by omega
 have:=(Nat.log2_lt hz').mpr h.lt
 omega
theorem divC{i j:Int}(h0:j≠0)(h1:j.natAbs<1073741824):vW i j:=⟨h0,PyProof.noPylong_small h1⟩
theorem mulL{i j:Int}(h:i.natAbs<2 ^ 64):IntMulOk i j:=Pb.ok (.inl ∅)
theorem mulR{i j:Int}(h:j.natAbs<2 ^ 64):IntMulOk i j:=Pb.ok (.inr ∅)
noncomputable def dN(x:N3):PyData:=.tuple [.int x.a,.int x.b,.int x.c]
noncomputable def isWhole(d:PyData):Bool:=isT "int" d&&!isT "bool" d
noncomputable def isNum:PyData->Bool
 |.tuple [.int a,.int b,.int c]=>decide (1<=c)&&(g3 a b c==1)
 |_=>false
noncomputable def nI:DSp:=fun ds U Q=>∃d,ds=[.v d]/\Q (.v (.bool (isWhole d))) U
noncomputable def tO:DSp:=fun ds U Q=>∃a b:Int,ds=[.v (.int a),.v (.int b)]/\Q (.v (.int (Int.gcd a b:Nat))) U
noncomputable def yG:DSp:=fun ds U Q=>∃a b c:Int,ds=[.v (.int a),.v (.int b),.v (.int c)]/\Q (.v (.int (g3 a b c:Nat))) U
noncomputable def Few:PyData->Prop
 |.tuple xs=>xs.length<=1000
 |_=>True
noncomputable def vb:DSp:=fun ds U Q=>∃d,ds=[.v d]/\Few d/\Q (.v (.bool (isNum d))) U
noncomputable def cE:DSp:=fun ds U Q=>∃a b c:Int,ds=[.v (.int a),.v (.int b),.v (.int c)]/\c≠0/\Sz 8800 c/\Q (.v (dN (low a b c))) U
noncomputable def qh:DSp:=fun ds U Q=>∃x:N3,ds=[.v (dN x)]/\Q (.v (dN (minus x))) U
noncomputable def sp2(f:N3->N3->N3):DSp:=fun ds U Q=>∃x y:N3,ds=[.v (dN x),.v (dN y)]/\Ok x/\Ok y/\Bd 4300 x/\Bd 4300 y/\Q (.v (dN (f x y))) U
noncomputable abbrev ig:DSp:=sp2 plus
noncomputable abbrev rN:DSp:=sp2 less
noncomputable def dI:DSp:=fun ds U Q=>∃(d:Int) (x y:N3),ds=[.v (.int d),.v (dN x),.v (dN y)]/\Sz 5 d/\Ok x/\Ok y/\Bd 4300 x/\Bd 4300 y/\Q (.v (dN (times d x y))) U
noncomputable def dS:DSp:=fun ds U Q=>∃(d:Int) (x:N3),ds=[.v (.int d),.v (dN x)]/\Sz 5 d/\norm d x≠0/\Bd 4300 x/\Q (.v (dN (bb d x))) U
noncomputable def nk:DSp:=fun ds U Q=>∃(d:Int) (x y:N3),ds=[.v (.int d),.v (dN x),.v (dN y)]/\aH d/\Ok x/\Ok y/\y≠ay/\Bd 2100 x/\Bd 2100 y/\Q (.v (dN (times d x (bb d y)))) U
noncomputable def sF:DSp:=fun ds U Q=>∃d a b:Int,ds=[.v (.int d),.v (.int a),.v (.int b)]/\Sz 5 d/\Sz 9900 a/\Sz 9900 b/\Q (.v (.int (sg d a b))) U
noncomputable def kJ:DSp:=fun ds U Q=>∃(d:Int) (x:N3),ds=[.v (.int d),.v (dN x)]/\aH d/\Bd 8900 x/\Q (.v (.int (sg d x.a x.b))) U
noncomputable def dif(d:Int)(x y:N3):Int:=sg d (x.a*y.c-y.a*x.c) (x.b*y.c-y.b*x.c)
noncomputable def xi:DSp:=fun ds U Q=>∃(d:Int) (x y:N3),ds=[.v (.int d),.v (dN x),.v (dN y)]/\aH d/\Bd 4400 x/\Bd 4400 y/\Q (.v (.bool (decide (dif d x y=1)))) U
noncomputable def Bag(U:Mu)(a:Addr):Prop:=∃g m:Int,U a=some [.int g,.int m]/\0<=g/\0<=m/\m<2147483648
noncomputable def Step(a:Addr)(U Z:Mu):Prop:=Bag Z a/\∀b,b≠a->Z b=U b
noncomputable def Iv:DSp:=fun ds U Q=>∃(ns:List Int) (k:Int),ds=[.s ns,.v (.int k)]/\0<=k/\k<=1000/\∀p Z,U p=none->Step p U Z->Q (.m p) Z
noncomputable def bD:DSp:=fun ds U Q=>∃(a:Addr) (n:Int),ds=[.m a,.v (.int n)]/\1<=n/\n<=1000000000/\Bag U a/\∀r Z,0<=r->r<n->Step a U Z->Q (.v (.int r)) Z
noncomputable def qo:DSp:=fun ds U Q=>∃a:Addr,ds=[.m a]/\Bag U a/\∀x Z,Ok x->Bd 20 x->Step a U Z->Q (.v (dN x)) Z
noncomputable def xx:DSp:=fun ds U Q=>∃a:Addr,ds=[.m a]/\Bag U a/\∀d Z,aH d->Step a U Z->Q (.v (.int d)) Z
theorem Step.trans{a:Addr}{U ad am:Mu}(h:Step a U ad)(g:Step a ad am):Step a U am:=⟨g.1,fun b n=>(g.2 b n).trans (h.2 b n)⟩
theorem Step.set{a:Addr}{U:Mu}{g m:Int}(h1:0<=g)(h2:0<=m)(h3:m<2147483648):Step a U (aR U a [.int g,.int m]):=⟨⟨g,m,aM,h1,h2,h3⟩,fun b n=>aT n⟩
def mkW(s:String):Lean.MacroM (Lean.TSyntax `tactic):=do let a<-(s.splitOn " ").toArray.mapM fun t=>if t.front=='↓' then `(Lean.Parser.Tactic.simpLemma|↓$(Lean.mkIdent (t.drop 1).toName):term) else `(Lean.Parser.Tactic.simpLemma|$(Lean.mkIdent t.toName):term);`(tactic|simp only[$a,*])
local macro_rules|`(tactic| walk_at "rd")=>mkW "↓Dq ↓DB ↓Ee ↓zz ↓Du ↓Dg ↓CO ↓DH ↓DN ↓CD ↓xu ↓q_c ↓Q9 ↓q_B ↓OE ↓Jt ↓Jv ↓HM ↓Qn ↓Dr ↓Lq ↓Cg ↓SJ ↓Bj ↓vj ↓Fn ↓Fe ↓Ek ↓FX ↓GD ↓EW ↓Gu ↓JL ↓xV ↓CQ ↓Ew ↓yE ↓zp ↓zJ ↓Eo ↓yZ ↓wL ↓Jy ↓Iq ↓Je ↓DQ ↓DU ↓N5 ↓sX ↓Cv ↓JO ↓IK ↓Su ↓yy ↓C4 ↓Em ↓Dk ↓IV ↓OA ↓CU ↓JQ ↓IH ↓qm ↓CI ↓xw ↓Cu ↓Dp ↓ME ↓IL ↓CP ↓Bl ↓Gy ↓Cs ↓MP ↓xq ↓Ny ↓Jr ↓JN ↓CL ↓tD ↓xA ↓tW ↓sH ↓uP ↓sU ↓JB LY ↓nA ↓j8 C1 Dy Jg Ip Jq bind_none bind_some join_some List.getElem?_cons_zero List.getElem?_cons_succ aK dN qM ze yz Bf F8 List.map List.append List.replicate length_cons length_nil Nat.reduceAdd Nat.reduceSub nil_append cons_append set_cons_zero set_cons_succ map_some ↓reduceIte Bool.not_true Bool.not_false false_eq_true Bool.true_eq_false xor_false false_xor"
noncomputable def o3:DTS:=
 (bo (nY (GC "int" (ah 0)) (L3 (GC "bool" (ah 0)))))
noncomputable def fV:DTS:=
 (aL (vD (dB (dOp (cU true) (ah 1) (dC (.int 0)))) (wV 0 1 (ag (ah 1) (ag (yk (ah 0) (ah 1)) ar))))
 (bo (dCB uI (ag (ah 0) ar))))
noncomputable def fU:DTS:=
 (bo (ax tO (ag (ax tO (ag (ah 2) (ag (ah 0) ar))) (ag (ah 1) ar))))
noncomputable def j3:DTS:=
 (aL (wV 0 1 (ag (dCB uI (ag (ah 0) ar)) (ag (dCB uI (ag (ah 1) ar)) ar)))
 (aL (vD (dB (dOp rGt (ah 1) (dC (.int 0)))) (wV 0 1 (ag (ah 1) (ag (yk (ah 0) (ah 1)) ar))))
 (bo (ah 0))))
section
theorem IE(x:Int){y:Int}(h:y≠0):(x.fmod y).natAbs<y.natAbs:=by
 have e:=Int.mul_fdiv_add_fmod x y
 have:=Int.fmod_def x y
 rcases lt_or_gt_of_ne h with h|h
 ·have k:=Int.neg_fmod_neg (a:=x) (b:=y)
  have h1:=Int.fmod_nonneg_of_pos (-x) (show 0 < -y by omega)
  have h2:=Int.fmod_lt_of_pos (-x) (show 0 < -y by omega)
  omega
 ·have h1:=Int.fmod_nonneg_of_pos x h
  have h2:=Int.fmod_lt_of_pos x h
  omega
theorem EH(x y:Int):Int.gcd y (x.fmod y)=Int.gcd x y:=by
 have e:=Int.mul_fdiv_add_fmod x y
 have e':x.fmod y=x+y*(-(x.fdiv y)):=by rw[Int.mul_neg];omega
 rw[e',Int.gcd_add_mul_left_right,Int.gcd_comm]
theorem Fb{U Qd ds}(h:nI ds U Qd):o3 ‹Qd› (aK ["thing"] ds) U:=by
 obtain⟨d,rfl,q⟩:=h
 unfold o3
 walk_at "rd"
 unfold isWhole at q
 cases hb:isT "int" d<;>simp_all
theorem uc{U Qd ds}(h:tO ds U Qd):fV ‹Qd› (aK ["a","b"] ds) U:=by
 obtain⟨a,b,rfl,q⟩:=h
 unfold fV
 walk_at "rd"
 refine⟨fun m ρ Z=>∃x y:Int,ρ=[some (.v (.int x)),some (.v (.int y))]/\m=y.natAbs/\Int.gcd x y=Int.gcd a b/\Z=U,⟨_,a,b,rfl,rfl,rfl,rfl⟩,?_⟩
 rintro m ρ Z ⟨x,y,rfl,rfl,hg,rfl⟩
 walk_at "rd"
 by_cases hy:y=0
 ·subst hy
  have e:Int.gcd x 0=x.natAbs:=Int.gcd_zero_right x
  rw[<- hg,e] at q
  simpa using q
 ·have z:(true ^^ decide (y=0))=true:=by simp[hy]
  rw[if_pos z]
  exact⟨hy,_,IE x hy,y,x.fmod y,rfl,rfl,(EH x y).trans hg,trivial⟩
theorem yT{U Qd ds}(h:tO ds U Qd):j3 ‹Qd› (aK ["_law_one","_law_other"] ds) U:=by
 obtain⟨a,b,rfl,q⟩:=h
 unfold j3
 walk_at "rd"
 refine⟨fun m ρ Z=>∃x y:Int,ρ=[some (.v (.int x)),some (.v (.int y))]/\m=y.natAbs/\0<=x/\0<=y/\Int.gcd x y=Int.gcd a b/\Z=U,⟨_,_,_,rfl,rfl,∅,∅,by simp[Int.gcd],rfl⟩,?_⟩
 rintro m ρ Z ⟨x,y,rfl,rfl,hx,hy,hg,rfl⟩
 walk_at "rd"
 by_cases h0:0<y
 ·rw[if_pos (by simpa using h0)]
  have hy':y≠0:=by omega
  exact⟨hy',_,IE x hy',y,x.fmod y,rfl,rfl,∅,Int.fmod_nonneg_of_pos x h0,(EH x y).trans hg,trivial⟩
 ·rw[if_neg (by simpa using h0)]
  have e:y=0:=by omega
  subst e
  rw[Int.gcd_zero_right] at hg
  have:x=((Int.gcd a b:Nat):Int):=by omega
  rw[this]
  exact q
theorem sV{U Qd ds}(h:yG ds U Qd):fU ‹Qd› (aK ["a","b","c"] ds) U:=by
 obtain⟨a,b,c,rfl,q⟩:=h
 unfold fU
 walk_at "rd"
 rw[<- Ow] at q
 exact⟨c,a,rfl,_,b,rfl,q⟩
end
noncomputable def vH:DTS:=
 (aL (cA (dB (dOp (cU false) (ah 2) (dC (.int 0)))) j4 bG)
 (aL (bc (ax yG (ag (ah 0) (ag (ah 1) (ag (ah 2) ar)))) (aq 3))
 (aL (cA (dB (dOp rLt (ah 2) (dC (.int 0)))) (bc (yg (ah 3)) (aq 3)) bG)
 (bo (bH (ag (vC (ah 0) (ah 3)) (ag (vC (ah 1) (ah 3)) (ag (vC (ah 2) (ah 3)) ar))))))))
noncomputable def pF:DTS:=
 (aL (bc (bU (ax tO (ag (ax tO (ag (ah 0) (ag (ah 1) ar))) (ag (ah 2) ar))) (dOp aF (pQ (ag (dC (.int 1)) (ag (yg (dC (.int 1))) ar))) (dCB tT (ag (dOp rLt (ah 2) (dC (.int 0))) ar)))) (aq 3))
 (bo (bH (ag (vC (ah 0) (ah 3)) (ag (vC (ah 1) (ah 3)) (ag (vC (ah 2) (ah 3)) ar))))))
noncomputable def k6:DTS:=
 (bo (bH (ag (jY (dC (.int 0)) (dOp aF (ah 0) (dC (.int 0)))) (ag (jY (dC (.int 0)) (dOp aF (ah 0) (dC (.int 1)))) (ag (dOp aF (ah 0) (dC (.int 2))) ar)))))
noncomputable def Es:DTS:=
 (bo (ax cE (ag (bV (bU (dOp aF (ah 0) (dC (.int 0))) (dOp aF (ah 1) (dC (.int 2)))) (bU (dOp aF (ah 1) (dC (.int 0))) (dOp aF (ah 0) (dC (.int 2))))) (ag (bV (bU (dOp aF (ah 0) (dC (.int 1))) (dOp aF (ah 1) (dC (.int 2)))) (bU (dOp aF (ah 1) (dC (.int 1))) (dOp aF (ah 0) (dC (.int 2))))) (ag (bU (dOp aF (ah 0) (dC (.int 2))) (dOp aF (ah 1) (dC (.int 2)))) ar)))))
noncomputable def sG:DTS:=
 (bo (ax cE (ag (bV (bU (dOp aF (ah 0) (dC (.int 0))) (dOp aF (ah 1) (dC (.int 2)))) (bU (dOp aF (ah 1) (dC (.int 0))) (dOp aF (ah 0) (dC (.int 2))))) (ag (bV (bU (dOp aF (ah 0) (dC (.int 1))) (dOp aF (ah 1) (dC (.int 2)))) (bU (dOp aF (ah 1) (dC (.int 1))) (dOp aF (ah 0) (dC (.int 2))))) (ag (bU (dOp aF (ah 0) (dC (.int 2))) (dOp aF (ah 1) (dC (.int 2)))) ar)))))
noncomputable def yh:DTS:=
 (bo (ax cE (ag (bV (bU (dOp aF (ah 1) (dC (.int 0))) (dOp aF (ah 2) (dC (.int 0)))) (bU (bU (ah 0) (dOp aF (ah 1) (dC (.int 1)))) (dOp aF (ah 2) (dC (.int 1))))) (ag (bV (bU (dOp aF (ah 1) (dC (.int 0))) (dOp aF (ah 2) (dC (.int 1)))) (bU (dOp aF (ah 1) (dC (.int 1))) (dOp aF (ah 2) (dC (.int 0))))) (ag (bU (dOp aF (ah 1) (dC (.int 2))) (dOp aF (ah 2) (dC (.int 2)))) ar)))))
noncomputable def qW:DTS:=
 (bo (ax cE (ag (bV (bU (dOp aF (ah 1) (dC (.int 0))) (dOp aF (ah 2) (dC (.int 0)))) (bU (bU (ah 0) (dOp aF (ah 1) (dC (.int 1)))) (dOp aF (ah 2) (dC (.int 1))))) (ag (bV (bU (dOp aF (ah 1) (dC (.int 0))) (dOp aF (ah 2) (dC (.int 1)))) (bU (dOp aF (ah 1) (dC (.int 1))) (dOp aF (ah 2) (dC (.int 0))))) (ag (bU (dOp aF (ah 1) (dC (.int 2))) (dOp aF (ah 2) (dC (.int 2)))) ar)))))
noncomputable def oR:DTS:=
 (aL (bc (jY (bU (dOp aF (ah 1) (dC (.int 0))) (dOp aF (ah 1) (dC (.int 0)))) (bU (bU (ah 0) (dOp aF (ah 1) (dC (.int 1)))) (dOp aF (ah 1) (dC (.int 1))))) (aq 2))
 (bo (ax cE (ag (bU (dOp aF (ah 1) (dC (.int 2))) (dOp aF (ah 1) (dC (.int 0)))) (ag (bU (yg (dOp aF (ah 1) (dC (.int 2)))) (dOp aF (ah 1) (dC (.int 1)))) (ag (ah 2) ar))))))
noncomputable def gY:DTS:=
 (bo (ax cE (ag (bU (dOp aF (ah 1) (dC (.int 0))) (dOp aF (ah 1) (dC (.int 2)))) (ag (jY (dC (.int 0)) (bU (dOp aF (ah 1) (dC (.int 1))) (dOp aF (ah 1) (dC (.int 2))))) (ag (jY (bU (dOp aF (ah 1) (dC (.int 0))) (dOp aF (ah 1) (dC (.int 0)))) (bU (bU (ah 0) (dOp aF (ah 1) (dC (.int 1)))) (dOp aF (ah 1) (dC (.int 1))))) ar)))))
noncomputable def Ei:DTS:=
 (aL (cA (dB (dOp (cU false) (ah 2) (dC (.tuple [.int 0,.int 0,.int 1])))) j4 bG)
 (bo (ax dI (ag (ah 0) (ag (ah 1) (ag (ax dS (ag (ah 0) (ag (ah 2) ar))) ar))))))
section
variable {U:Mu}{Qd:DK}{ds:List D}
theorem UG(i j:Int):PyData.eqv (.int i) (.int j)=decide (i=j):=by simp[PyData.eqv];rfl
theorem gdv{a b c:Int}(h:Sz 8800 c)(hc:c≠0):Sz 8800 ((g3 a b c:Nat):Int):=by
 have h1:=(Na a b c).2.2
 have h2:=Int.natAbs_dvd_natAbs.mpr h1
 exact h.le (Nat.le_of_dvd ∅ h2)
theorem KY(h:cE ds U Qd):vH ‹Qd› (aK ["a","b","c","divisor"] ds) U:=by
 obtain⟨a,b,c,rfl,hc,hz,q⟩:=h
 unfold vH
 walk_at "rd"
 rw[decide_eq_false hc]
 simp only[xor_false,false_eq_true,↓reduceIte]
 refine⟨a,b,c,rfl,?_⟩
 walk_at "rd"
 have hp:=D3 (a:=a) (b:=b) hc
 have hg:=gdv (a:=a) (b:=b) hz hc
 unfold low NM.dv dN at q
 simp only at q
 by_cases hn:c<0
 ·rw[if_pos (by simpa using hn)]
  rw[if_pos hn] at q
  have o:∀i:Int,vW i (-((g3 a b c:Nat):Int)):=fun i=>B4 ∅ hg.neg ⋯
  exact⟨o _,o _,o _,q⟩
 ·rw[if_neg (by simpa using hn)]
  rw[if_neg hn] at q
  have o:∀i:Int,vW i ((g3 a b c:Nat):Int):=fun i=>B4 ∅ hg ⋯
  exact⟨o _,o _,o _,q⟩
theorem FJ(h:cE ds U Qd):pF ‹Qd› (aK ["_law_a","_law_b","_law_c","_law_common"] ds) U:=by
 obtain⟨a,b,c,rfl,hc,hz,q⟩:=h
 unfold pF
 walk_at "rd"
 refine⟨a,b,rfl,_,c,rfl,?_⟩
 walk_at "rd"
 have hp:=D3 (a:=a) (b:=b) hc
 have hg:=gdv (a:=a) (b:=b) hz hc
 unfold low NM.dv dN at q
 simp only at q
 by_cases hn:c<0
 ·simp only[hn,decide_true,↓reduceIte,yz]
  rw[if_pos hn] at q
  have e:((Int.gcd (Int.gcd a b:Nat) c:Nat):Int) * -1 = -((g3 a b c:Nat):Int):=by unfold g3;omega
  walk_at "rd"
  rw[e]
  have o:∀i:Int,vW i (-((g3 a b c:Nat):Int)):=fun i=>B4 ∅ hg.neg ⋯
  exact⟨mulR ⋯,o _,o _,o _,q⟩
 ·simp only[hn,decide_false,false_eq_true,↓reduceIte,ze]
  rw[if_neg hn] at q
  have e:((Int.gcd (Int.gcd a b:Nat) c:Nat):Int)*1=((g3 a b c:Nat):Int):=by unfold g3;omega
  walk_at "rd"
  rw[e]
  have o:∀i:Int,vW i ((g3 a b c:Nat):Int):=fun i=>B4 ∅ hg ⋯
  exact⟨mulR ⋯,o _,o _,o _,q⟩
theorem Ay(h:qh ds U Qd):k6 ‹Qd› (aK ["_law_x"] ds) U:=by
 obtain⟨x,rfl,q⟩:=h
 unfold k6
 walk_at "rd"
 simp only[Int.zero_sub]
 exact q
theorem IW(h:ig ds U Qd):Es ‹Qd› (aK ["x","y"] ds) U:=by
 obtain⟨x,y,rfl,ox,oy,bx,by',q⟩:=h
 unfold Es
 walk_at "rd"
 have m:∀{i j:Int},Sz 4300 i->Sz 4300 j->IntMulOk i j:=fun h g=>gk h g ⋯
 exact⟨m bx.a by'.c,m by'.a bx.c,m bx.b by'.c,m by'.b bx.c,m bx.c by'.c,_,_,_,rfl,yw ox oy,(bx.c.mul by'.c).mono ⋯,q⟩
theorem C7(h:ig ds U Qd):sG ‹Qd› (aK ["_law_x","_law_y"] ds) U:=IW h
theorem Gz(h:dI ds U Qd):yh ‹Qd› (aK ["d","x","y"] ds) U:=by
 obtain⟨d,x,y,rfl,hd,ox,oy,bx,by',q⟩:=h
 unfold yh
 walk_at "rd"
 have m:∀{i j:Int},Sz 4300 i->Sz 4300 j->IntMulOk i j:=fun h g=>gk h g ⋯
 exact⟨m bx.a by'.a,gk hd bx.b ⋯,gk (hd.mul bx.b) by'.b ⋯,m bx.a by'.b,m bx.b by'.a,m bx.c by'.c,_,_,_,rfl,yw ox oy,(bx.c.mul by'.c).mono ⋯,q⟩
theorem AI(h:dI ds U Qd):qW ‹Qd› (aK ["_law_d","_law_x","_law_y"] ds) U:=Gz h
theorem Ft(h:dS ds U Qd):oR ‹Qd› (aK ["d","x","norm"] ds) U:=by
 obtain⟨d,x,rfl,hd,hn,bx,q⟩:=h
 unfold oR
 walk_at "rd"
 have m:∀{i j:Int},Sz 4300 i->Sz 4300 j->IntMulOk i j:=fun h g=>gk h g ⋯
 exact⟨m bx.a bx.a,gk hd bx.b ⋯,gk (hd.mul bx.b) bx.b ⋯,m bx.c bx.a,m bx.c.neg bx.b,_,_,_,rfl,hn,(Df hd bx).mono ⋯,q⟩
theorem vy(h:dS ds U Qd):gY ‹Qd› (aK ["_law_d","_law_x"] ds) U:=by
 obtain⟨d,x,rfl,hd,hn,bx,q⟩:=h
 unfold gY
 walk_at "rd"
 have m:∀{i j:Int},Sz 4300 i->Sz 4300 j->IntMulOk i j:=fun h g=>gk h g ⋯
 refine⟨m bx.a bx.c,m bx.b bx.c,m bx.a bx.a,gk hd bx.b ⋯,gk (hd.mul bx.b) bx.b ⋯,_,_,_,rfl,hn,(Df hd bx).mono ⋯,?_⟩
 have e1:x.a*x.c=x.c*x.a:=Int.mul_comm ..
 have e2:0-x.b*x.c = -x.c*x.b:=by grind
 rw[e1,e2]
 exact q
theorem SO(a b c a' b' c':Int):PyData.eqv (.tuple [.int a,.int b,.int c]) (.tuple [.int a',.int b',.int c'])=decide (a=a'/\b=b'/\c=c'):=by
 simp[PyData.eqv,PyData.eqvAll]
 rfl
theorem O7(h:nk ds U Qd):Ei ‹Qd› (aK ["d","x","y"] ds) U:=by
 obtain⟨d,x,y,rfl,hd,ox,oy,hy,bx,by',q⟩:=h
 unfold Ei
 walk_at "rd"
 refine⟨rfl,rfl,?_⟩
 have hn:¬ (y.a=0/\y.b=0/\y.c=1):=fun z=>hy (N3.ext' z.1 z.2.1 z.2.2)
 rw[SO,decide_eq_false hn]
 simp only[xor_false,false_eq_true,↓reduceIte]
 have s5:=zA hd.1 hd.2.1
 have nz:=hd.norm oy hy
 exact⟨d,y,rfl,s5,nz,by'.mono ⋯,d,x,_,rfl,s5,ox,bB nz,bx.mono ⋯,(ko s5 nz by').mono ⋯,q⟩
end
noncomputable def hW:DTS:=
 (aL (cA (vN (dB (dOp (cU false) (ah 1) (dC (.int 0)))) (dB (dOp (cU false) (ah 2) (dC (.int 0))))) (bo (dC (.int 0))) bG)
 (aL (cA (vN (dB (dOp rGe (ah 1) (dC (.int 0)))) (dB (dOp rGe (ah 2) (dC (.int 0))))) (bo (dC (.int 1))) bG)
 (aL (cA (vN (dB (dOp rLe (ah 1) (dC (.int 0)))) (dB (dOp rLe (ah 2) (dC (.int 0))))) (bo (yg (dC (.int 1)))) bG)
 (aL (bc (dIf (dB (dOp rGt (bU (ah 1) (ah 1)) (bU (bU (ah 0) (ah 2)) (ah 2)))) (ah 1) (ah 2)) (aq 3))
 (bo (dIf (dB (dOp rGt (ah 3) (dC (.int 0)))) (dC (.int 1)) (yg (dC (.int 1)))))))))
noncomputable def rq:DTS:=
 (bo (ax sF (ag (ah 0) (ag (dOp aF (ah 1) (dC (.int 0))) (ag (dOp aF (ah 1) (dC (.int 1))) ar)))))
noncomputable def oF:DTS:=
 (aL (bc (jY (bU (dOp aF (ah 1) (dC (.int 0))) (dOp aF (ah 2) (dC (.int 2)))) (bU (dOp aF (ah 2) (dC (.int 0))) (dOp aF (ah 1) (dC (.int 2))))) (aq 3))
 (aL (bc (jY (bU (dOp aF (ah 1) (dC (.int 1))) (dOp aF (ah 2) (dC (.int 2)))) (bU (dOp aF (ah 2) (dC (.int 1))) (dOp aF (ah 1) (dC (.int 2))))) (aq 4))
 (bo (dOp (cU false) (ax sF (ag (ah 0) (ag (ah 3) (ag (ah 4) ar)))) (dC (.int 1))))))
noncomputable def mQ:DTS:=
 (aL (wV 2 3 (ag (bU (dOp aF (ah 1) (dC (.int 0))) (dOp aF (ah 1) (dC (.int 0)))) (ag (bU (bU (ah 0) (dOp aF (ah 1) (dC (.int 1)))) (dOp aF (ah 1) (dC (.int 1)))) ar)))
 (aL (bc (pQ (ag (jY (dCB tT (ag (dOp rGt (dOp aF (ah 1) (dC (.int 0))) (dC (.int 0))) ar)) (dCB tT (ag (dOp rLt (dOp aF (ah 1) (dC (.int 0))) (dC (.int 0))) ar))) (ag (jY (dCB tT (ag (dOp rGt (dOp aF (ah 1) (dC (.int 1))) (dC (.int 0))) ar)) (dCB tT (ag (dOp rLt (dOp aF (ah 1) (dC (.int 1))) (dC (.int 0))) ar))) ar))) (aq 4))
 (aL (cA (dB (dOp rGe (bU (dOp aF (ah 4) (dC (.int 0))) (dOp aF (ah 4) (dC (.int 1)))) (dC (.int 0)))) (bo (dIf (dB (dOp (cU true) (dOp aF (ah 4) (dC (.int 0))) (dC (.int 0)))) (dOp aF (ah 4) (dC (.int 0))) (dOp aF (ah 4) (dC (.int 1))))) bG)
 (bo (dIf (dB (dOp rGt (ah 2) (ah 3))) (dOp aF (ah 4) (dC (.int 0))) (dOp aF (ah 4) (dC (.int 1))))))))
section
variable {U:Mu}{Qd:DK}{ds:List D}
theorem vn(h:sF ds U Qd):hW ‹Qd› (aK ["d","a","b","prevailing"] ds) U:=by
 obtain⟨d,a,b,rfl,hd,ha,hb,q⟩:=h
 unfold hW
 walk_at "rd"
 have m1:MulOk a a:=gk ha ha ⋯
 have m2:MulOk d b:=gk hd hb ⋯
 have m3:MulOk (d*b) b:=gk (hd.mul hb) hb ⋯
 unfold sg at q
 by_cases h1:a=0
 ·by_cases h2:b=0
  ·subst h1 h2;simpa using q
  ·subst h1
   rcases lt_or_gt_of_ne h2 with h3|h3
   ·have e:¬ (0<=b):=by omega
    have e':b<=0:=by omega
    simp only[h2,e,e',and_false,true_and,if_true,if_false,decide_true,decide_false,le_refl,↓reduceIte,false_eq_true] at q ⊢
    exact q
   ·have e:(0<=b):=by omega
    simp only[h2,e,and_false,true_and,if_true,if_false,decide_true,decide_false,le_refl,↓reduceIte,false_eq_true] at q ⊢
    exact q
 ·by_cases h3:0<=a<;>by_cases h4:0<=b<;>by_cases h5:a<=0<;>by_cases h6:b<=0<;>by_cases h7:d*b*b<a*a<;>(try (exfalso;omega))<;>
   simp only[h1,h3,h4,h5,h6,h7,and_false,false_and,and_true,true_and,if_true,if_false,decide_true,decide_false,↓reduceIte,false_eq_true,and_self,m1,m2,m3,gt_iff_lt] at q ⊢<;>(try exact q)
  all_goals
   first
   |(by_cases h8:0<a<;>simp only[h8,if_true,if_false,decide_true,decide_false,↓reduceIte,false_eq_true] at q ⊢<;>exact q)
   |(by_cases h8:0<b<;>simp only[h8,if_true,if_false,decide_true,decide_false,↓reduceIte,false_eq_true] at q ⊢<;>exact q)
theorem Hs(h:kJ ds U Qd):rq ‹Qd› (aK ["d","x"] ds) U:=by
 obtain⟨d,x,rfl,hd,bx,q⟩:=h
 unfold rq
 walk_at "rd"
 exact⟨d,x.a,x.b,rfl,zA hd.1 hd.2.1,bx.a.mono ⋯,bx.b.mono ⋯,q⟩
theorem EE(h:xi ds U Qd):oF ‹Qd› (aK ["d","x","y","a","b"] ds) U:=by
 obtain⟨d,x,y,rfl,hd,bx,by',q⟩:=h
 unfold oF
 walk_at "rd"
 have m:∀{i j:Int},Sz 4400 i->Sz 4400 j->IntMulOk i j:=fun h g=>gk h g ⋯
 refine⟨m bx.a by'.c,m by'.a bx.c,m bx.b by'.c,m by'.b bx.c,d,_,_,rfl,zA hd.1 hd.2.1,((bx.a.mul by'.c).sub (by'.a.mul bx.c)).mono ⋯,((bx.b.mul by'.c).sub (by'.b.mul bx.c)).mono ⋯,?_⟩
 walk_at "rd"
 exact q
theorem RY{d a b sa sb:Int}(ha:(a<0/\sa = -1)\/(a=0/\sa=0)\/(0<a/\sa=1))(hb:(b<0/\sb = -1)\/(b=0/\sb=0)\/(0<b/\sb=1)) :
  sg d a b=if 0<=sa*sb then (if sa≠0 then sa else sb) else if d*b*b<a*a then sa else sb:=by
 unfold sg
 by_cases h7:d*b*b<a*a<;>rcases ha with ⟨h1,rfl⟩|⟨h1,rfl⟩|⟨h1,rfl⟩<;>rcases hb with ⟨h2,rfl⟩|⟨h2,rfl⟩|⟨h2,rfl⟩<;>simp only[h7,↓reduceIte]<;>(repeat' split)<;>omega
theorem Ce(h:kJ ds U Qd):mQ ‹Qd› (aK ["_law_d","_law_x","_law_first","_law_second","_law_sides"] ds) U:=by
 obtain⟨d,x,rfl,hd,bx,q⟩:=h
 unfold mQ
 walk_at "rd"
 have s5:=zA hd.1 hd.2.1
 refine⟨gk bx.a bx.a ⋯,gk s5 bx.b ⋯,gk (s5.mul bx.b) bx.b ⋯,?_⟩
 have sd:∀u:Int,(u<0/\((if decide (0<u)=true then 1 else 0)-if decide (u<0)=true then 1 else 0:Int) = -1)\/(u=0/\((if decide (0<u)=true then 1 else 0)-if decide (u<0)=true then 1 else 0:Int)=0)\/(0<u/\((if decide (0<u)=true then 1 else 0)-if decide (u<0)=true then 1 else 0:Int)=1):=fun u=>by
  simp only[decide_eq_true_eq]
  split<;>split<;>omega
 have ha:=sd x.a
 have hb:=sd x.b
 generalize ((if decide (0<x.a)=true then 1 else 0)-if decide (x.a<0)=true then 1 else 0:Int)=sa at ha ⊢
 generalize ((if decide (0<x.b)=true then 1 else 0)-if decide (x.b<0)=true then 1 else 0:Int)=sb at hb ⊢
 rw[RY ha hb] at q
 refine⟨mulL ∅,?_⟩
 by_cases c1:0<=sa*sb<;>by_cases c2:sa=0<;>by_cases c3:d*x.b*x.b<x.a*x.a<;>simp only[c1,c2,c3,decide_true,decide_false,↓reduceIte,false_eq_true,xor_false,Bool.xor_true,Bool.not_true,ne_eq,not_true_eq_false,not_false_eq_true,Int.zero_mul,le_refl] at q ⊢<;>exact q
end
noncomputable def oP:DTS:=
 (aL (bc (dC (.int 0)) (aq 2))
 (aL (cA (dB (dOp rLt (ah 1) (dCB cR (ag (ah 0) ar)))) (bc (dOp aF (ah 0) (ah 1)) (aq 2)) bG)
 (aL (bc (dC (.int 0)) (aq 3))
 (aL (cA (dB (dOp rGe (dCB uI (ag (ah 2) ar)) (R5 (dC (.int 10)) (dC (.int 18))))) (bc (dCB uI (ag (ah 2) ar)) (aq 3)) bG)
 (aL (bc (pQ (ag (dC (.int 2147483647)) (ag (dC (.int 2147483629)) (ag (dC (.int 2147483587)) (ag (dC (.int 2147483579)) (ag (dC (.int 2147483563)) (ag (dC (.int 2147483549)) (ag (dC (.int 2147483543)) (ag (dC (.int 2147483497)) ar))))))))) (aq 4))
 (aL (bc (bV (bV (bV (bU (yk (ah 2) (dC (.int 2147483647))) (dC (.int 69623))) (bU (bU (dC (.int 104729)) (ah 1)) (ah 1))) (bU (dC (.int 7919)) (ah 1))) (dC (.int 12345))) (aq 5))
 (bo (uT (ag (ah 3) (ag (yk (ah 5) (dOp aF (ah 4) (yk (ah 1) (dC (.int 8))))) ar))))))))))
section
variable {U:Mu}{Qd:DK}{ds:List D}
theorem sE{α:Type}{xs:List α}{i:Int}(h0:0<=i)(h:i<(xs.length:Nat)):∃d,atI xs i=some d/\d∈xs:=by
 have hj:i.toNat<xs.length:=by omega
 have e:=pW (xs:=xs) (j:=i.toNat) (v:=xs[i.toNat]) (by simp[hj])
 rw[show ((i.toNat:Nat):Int)=i by omega] at e
 exact⟨_,e,getElem_mem _⟩
theorem oU(x:Int){y:Int}(h:0<y):0<=x.fmod y/\x.fmod y<y:=⟨Int.fmod_nonneg_of_pos x h,Int.fmod_lt_of_pos x h⟩
theorem Pg{x y:Int}(hx:0<=x)(hy:0<y):0<=x.fdiv y:=by rw[Int.fdiv_eq_ediv_of_nonneg _ ∅];exact Int.ediv_nonneg hx ∅
noncomputable def ql:List PyData:=[.int 2147483647,.int 2147483629,.int 2147483587,.int 2147483579,.int 2147483563,.int 2147483549,.int 2147483543,.int 2147483497]
theorem Gn(h:Iv ds U Qd):oP ‹Qd› (aK ["_law_script","_law_at","_law_cell","_law_great","_law_primes","_law_mixed"] ds) U:=by
 obtain⟨ns,k,rfl,h0,h1,q⟩:=h
 unfold oP
 have hp:∃pr:Int,atI ql (k.fmod 8)=some (.int pr)/\0<pr/\pr<2147483648:=by
  obtain⟨h2,h3⟩:=oU k (show (0:Int)<8 by decide)
  obtain⟨p,e,hm⟩:=sE (xs:=ql) h2 (by exact h3)
  simp only[ql,mem_cons,not_mem_nil,or_false] at hm
  rcases hm with rfl|rfl|rfl|rfl|rfl|rfl|rfl|rfl<;>exact⟨_,e,⋯,⋯⟩
 obtain⟨pr,hpe,hp0,hp1⟩:=hp
 unfold ql at hpe
 walk_at "rd"
 rw[hpe]
 walk_at "rd"
 have c1:Rw 10 18:=⟨⋯,⋯,⋯⟩
 have z1:(2147483647:Int)≠0:=by decide
 have z2:(8:Int)≠0:=by decide
 have m1:∀i:Int,MulOk i 69623:=fun i=>mulR ⋯
 have m2:MulOk 104729 k:=mulL ⋯
 have m3:MulOk (104729*k) k:=mulR ∅
 have m4:MulOk 7919 k:=mulL ⋯
 have z3:pr≠0:=by omega
 have fin:∀G x:Int,0<=G->∀p,U p=none->Qd (.m p) (aR U p [.int G,.int (x.fmod pr)]):=fun G x hG p hp=>by
  obtain⟨h2,h3⟩:=oU x hp0
  exact q p _ hp (Step.set hG h2 ∅)
 by_cases hk:k<(ns.length:Nat)
 ·rw[if_pos (by simpa using hk)]
  obtain⟨c,hc,_⟩:=sE h0 hk
  rw[hc]
  walk_at "rd"
  refine⟨c1,?_⟩
  split
  ·exact⟨z1,m1 _,m2,m3,m4,z2,z3,fin _ _ ∅⟩
  ·exact⟨z1,m1 _,m2,m3,m4,z2,z3,fin _ _ ∅⟩
 ·rw[if_neg (by simpa using hk)]
  refine⟨c1,?_⟩
  split
  ·exact⟨z1,m1 _,m2,m3,m4,z2,z3,fin _ _ ∅⟩
  ·exact⟨z1,m1 _,m2,m3,m4,z2,z3,fin _ _ ∅⟩
end
noncomputable def nJ:DTS:=
 (aL (cA (qu (gC (dB (GC "tuple" (ah 0)))) (dB (dOp (cU true) (dCB cR (ag (ah 0) ar)) (dC (.int 3))))) (bo (dC (.bool false))) bG)
 (aL (bc (ah 0) (cC 3 (aC (aq 1) (aC (aq 2) (aC (aq 3) cF)))))
 (aL (cA (qu (gC (dB (ax nI (ag (ah 1) ar)))) (qu (gC (dB (ax nI (ag (ah 2) ar)))) (gC (dB (ax nI (ag (ah 3) ar)))))) (bo (dC (.bool false))) bG)
 (bo (nY (dOp rGe (ah 3) (dC (.int 1))) (dOp (cU false) (ax yG (ag (ah 1) (ag (ah 2) (ag (ah 3) ar)))) (dC (.int 1))))))))
section
variable {U:Mu}{Qd:DK}{ds:List D}
noncomputable def Im(i:Int):Bool:=decide (2<=i)&&decide (i<=30)&&!(decide (i=4) || decide (i=9) || decide (i=16) || decide (i=25))
theorem k8(d:PyData):(∃i,d = .int i/\isWhole d=true)\/((∀i,d≠.int i)/\isWhole d=false):=by
 cases d<;>first|exact .inl ⟨_,rfl,rfl⟩|exact .inr ⟨fun _ z=>(by cases z),rfl⟩
theorem PK(d:PyData):(∃xs,d = .tuple xs/\isT "tuple" d=true)\/((∀xs,d≠.tuple xs)/\isT "tuple" d=false):=by
 cases d<;>first|exact .inl ⟨_,rfl,rfl⟩|exact .inr ⟨fun _ z=>(by cases z),rfl⟩
theorem La{d:PyData}(h:∀xs,d≠.tuple xs):isNum d=false:=by cases d<;>first|rfl|exact absurd rfl (h _)
theorem Ki{xs:List PyData}(h:xs.length≠3):isNum (.tuple xs)=false:=by
 unfold isNum
 split
 ·rename_i e;cases e;exact absurd rfl h
 ·rfl
theorem three{α:Type}{xs:List α}(h:xs.length=3):∃a b c,xs=[a,b,c]:=by
 match xs,h with
 |[a,b,c],_=>exact⟨a,b,c,rfl⟩
theorem Dw(h:vb ds U Qd):nJ ‹Qd› (aK ["thing","a","b","c"] ds) U:=by
 obtain⟨d,rfl,_,q⟩:=h
 unfold nJ
 walk_at "rd"
 rcases PK d with ⟨xs,rfl,e⟩|⟨hn,e⟩
 ·rw[e]
  walk_at "rd"
  by_cases hl:xs.length=3
  ·obtain⟨a,b,c,rfl⟩:=three hl
   have e3:decide ((([a,b,c].length:Nat):Int)=3)=true:=rfl
   have e3':[a,b,c].length=3:=rfl
   simp only[e3,Bool.xor_self,false_eq_true,↓reduceIte]
   refine⟨rfl,?_⟩
   walk_at "rd"
   refine⟨a,rfl,?_⟩
   rcases k8 a with ⟨i,rfl,e⟩|⟨hn,e⟩
   ·rw[e]
    walk_at "rd"
    refine⟨b,rfl,?_⟩
    rcases k8 b with ⟨j,rfl,e⟩|⟨hn,e⟩
    ·rw[e]
     walk_at "rd"
     refine⟨c,rfl,?_⟩
     rcases k8 c with ⟨k,rfl,e⟩|⟨hn,e⟩
     ·rw[e]
      walk_at "rd"
      have q':Qd (.v (.bool (decide (1<=k)&&(g3 i j k==1)))) U:=q
      by_cases hk:1<=k
      ·rw[if_pos (by simpa using hk)]
       refine⟨i,j,k,rfl,?_⟩
       walk_at "rd"
       have ee:decide (((g3 i j k:Nat):Int)=1)=(decide (1<=k)&&(g3 i j k==1)):=by
        rw[decide_eq_true hk,Bool.true_and,Bool.eq_iff_iff];simp;omega
       rw[ee]
       exact q'
      ·rw[if_neg (by simpa using hk)]
       rw[decide_eq_false hk] at q'
       exact q'
     ·rw[e]
      walk_at "rd"
      have:isNum (.tuple [.int i,.int j,c])=false:=by cases c<;>first|rfl|exact absurd rfl (hn _)
      rw[this] at q
      exact q
    ·rw[e]
     walk_at "rd"
     have:isNum (.tuple [.int i,b,c])=false:=by cases b<;>first|rfl|exact absurd rfl (hn _)
     rw[this] at q
     exact q
   ·rw[e]
    walk_at "rd"
    have:isNum (.tuple [a,b,c])=false:=by cases a<;>first|rfl|exact absurd rfl (hn _)
    rw[this] at q
    exact q
  ·rw[Ki hl] at q
   have:decide (((xs.length:Nat):Int)=3)=false:=by simp;omega
   rw[this]
   simp only[xor_false,↓reduceIte]
   exact q
 ·rw[e]
  rw[La hn] at q
  walk_at "rd"
  exact q
end
noncomputable def jF:DTS:=
 (aL (bc (dOp aF (pQ (ag (dC (.int 4)) (ag (dC (.int 10)) (ag (dC (.int 100)) (ag (dC (.int 1000000)) ar))))) (ax bD (ag (ah 0) (ag (dC (.int 4)) ar)))) (aq 1))
 (aL (wV 2 3 (ag (jY (ax bD (ag (ah 0) (ag (ah 1) ar))) (vC (ah 1) (dC (.int 2)))) (ag (jY (ax bD (ag (ah 0) (ag (ah 1) ar))) (vC (ah 1) (dC (.int 2)))) ar)))
 (aL (bc (bV (dC (.int 1)) (ax bD (ag (ah 0) (ag (jY (ah 1) (dC (.int 1))) ar)))) (aq 4))
 (aL (bc (ax bD (ag (ah 0) (ag (dC (.int 8)) ar))) (aq 5))
 (bo (ax cE (ag (dOp aF (pQ (ag (ah 2) (ag (ah 2) (ag (ah 2) (ag (ah 2) (ag (ah 2) (ag (ah 2) (ag (ah 2) (ag (dC (.int 0)) ar))))))))) (ah 5)) (ag (dOp aF (pQ (ag (ah 3) (ag (ah 3) (ag (ah 3) (ag (ah 3) (ag (ah 3) (ag (dC (.int 0)) (ag (dC (.int 0)) (ag (ah 3) ar))))))))) (ah 5)) (ag (dOp aF (pQ (ag (ah 4) (ag (ah 4) (ag (dC (.int 1)) (ag (ah 4) (ag (dC (.int 1)) (ag (ah 4) (ag (dC (.int 1)) (ag (ah 4) ar))))))))) (ah 5)) ar)))))))))
section
variable {U:Mu}{Qd:DK}{ds:List D}
theorem pick{P:PyData->Prop}{xs:List PyData}{i:Int}(h0:0<=i)(h1:i<(xs.length:Nat))(h:∀x∈xs,P x):∃d,atI xs i=some d/\P d:=let ⟨d,e,m⟩:=sE h0 h1;⟨d,e,h d m⟩
theorem GL{i:Int}(h1:-1048576<i)(h2:i<1048576):Sz 20 i:=Sz.of (by show i.natAbs<1048576;omega)
theorem yU(h:qo ds U Qd):jF ‹Qd› (aK ["_law_bag_here","_law_wide","_law_a","_law_b","_law_c","_law_way"] ds) U:=by
 obtain⟨a,rfl,hb,q⟩:=h
 unfold jF
 walk_at "rd"
 refine⟨a,4,rfl,⋯,⋯,hb,fun r0 ad h0 h1 s1=>?_⟩
 walk_at "rd"
 obtain⟨w,e,i,rfl,w0,w1⟩:=pick (P:=fun d=>∃i:Int,d = .int i/\4<=i/\i<=1000000) (xs:=[PyData.int 4,PyData.int 10,PyData.int 100,PyData.int 1000000]) h0 (by exact h1) (by
  intro x hx
  simp only[mem_cons,not_mem_nil,or_false] at hx
  rcases hx with rfl|rfl|rfl|rfl<;>exact⟨_,rfl,⋯,⋯⟩)
 rw[e]
 walk_at "rd"
 refine⟨a,i,rfl,∅,∅,s1.1,fun r1 am h2 h3 s2=>?_⟩
 walk_at "rd"
 refine⟨divC ⋯ ⋯,a,i,rfl,∅,∅,s2.1,fun r2 bi h4 h5 s3=>?_⟩
 walk_at "rd"
 refine⟨divC ⋯ ⋯,a,i-1,rfl,∅,∅,s3.1,fun r3 ge h6 h7 s4=>?_⟩
 walk_at "rd"
 refine⟨a,8,rfl,⋯,⋯,s4.1,fun r4 ii h8 h9 s5=>?_⟩
 walk_at "rd"
 have ef:i.fdiv 2=i / 2:=Int.fdiv_eq_ediv_of_nonneg _ ∅
 rw[ef]
 have za:Sz 20 (r1-i / 2):=GL ∅ ∅
 have zb:Sz 20 (r2-i / 2):=GL ∅ ∅
 have zc:Sz 20 (1+r3):=GL ∅ ∅
 have z0:Sz 20 0:=GL ∅ ∅
 have z1:Sz 20 1:=GL ∅ ∅
 obtain⟨d1,e1,i1,rfl,b1⟩:=pick (P:=fun d=>∃i:Int,d = .int i/\Sz 20 i) (xs:=[PyData.int (r1-i / 2),PyData.int (r1-i / 2),PyData.int (r1-i / 2),PyData.int (r1-i / 2),PyData.int (r1-i / 2),PyData.int (r1-i / 2),PyData.int (r1-i / 2),PyData.int 0]) h8 (by exact h9) (by
  intro x hx
  simp only[mem_cons,not_mem_nil,or_false] at hx
  rcases hx with rfl|rfl|rfl|rfl|rfl|rfl|rfl|rfl<;>exact⟨_,rfl,by assumption⟩)
 rw[e1]
 walk_at "rd"
 obtain⟨d2,e2,i2,rfl,b2⟩:=pick (P:=fun d=>∃i:Int,d = .int i/\Sz 20 i) (xs:=[PyData.int (r2-i / 2),PyData.int (r2-i / 2),PyData.int (r2-i / 2),PyData.int (r2-i / 2),PyData.int (r2-i / 2),PyData.int 0,PyData.int 0,PyData.int (r2-i / 2)]) h8 (by exact h9) (by
  intro x hx
  simp only[mem_cons,not_mem_nil,or_false] at hx
  rcases hx with rfl|rfl|rfl|rfl|rfl|rfl|rfl|rfl<;>exact⟨_,rfl,by assumption⟩)
 rw[e2]
 walk_at "rd"
 obtain⟨d3,e3,i3,rfl,b3,p3⟩:=pick (P:=fun d=>∃i:Int,d = .int i/\Sz 20 i/\0<i) (xs:=[PyData.int (1+r3),PyData.int (1+r3),PyData.int 1,PyData.int (1+r3),PyData.int 1,PyData.int (1+r3),PyData.int 1,PyData.int (1+r3)]) h8 (by exact h9) (by
  intro x hx
  simp only[mem_cons,not_mem_nil,or_false] at hx
  rcases hx with rfl|rfl|rfl|rfl|rfl|rfl|rfl|rfl<;>exact⟨_,rfl,by assumption,∅⟩)
 rw[e3]
 walk_at "rd"
 have n3:i3≠0:=by omega
 exact⟨i1,i2,i3,rfl,n3,b3.mono ⋯,q _ _ (eG _ _ n3) (nh n3 b1 b2 b3) (s1.trans (s2.trans (s3.trans (s4.trans s5))))⟩
end
noncomputable def nD:DTS:=
 (aL (cA (dB (dOp (cU false) (ax bD (ag (ah 0) (ag (dC (.int 2)) ar))) (dC (.int 0)))) (bo (dOp aF (pQ (ag (dC (.int 2)) (ag (dC (.int 3)) (ag (dC (.int 5)) ar)))) (ax bD (ag (ah 0) (ag (dC (.int 3)) ar))))) bG)
 (aL (bc (ie [none] (zY (ag (dC (.int 2)) (ag (dC (.int 31)) ar))) (aq 0) (dB (dOp (Pl true) (ah 0) (pQ (ag (dC (.int 4)) (ag (dC (.int 9)) (ag (dC (.int 16)) (ag (dC (.int 25)) ar))))))) (ah 0)) (aq 1))
 (bo (dOp aF (ah 1) (ax bD (ag (ah 0) (ag (dC (.int 25)) ar)))))))
noncomputable def kS:DTS:=
 (aL (bc (ax qo (ag (ah 0) ar)) (aq 2))
 (aL (bc (ax kJ (ag (ah 1) (ag (ah 2) ar))) (aq 3))
 (aL (cA (dB (dOp (cU false) (ah 3) (dC (.int 0)))) (bo (bH (ag (bV (dC (.int 1)) (ax bD (ag (ah 0) (ag (dC (.int 5)) ar)))) (ag (dC (.int 0)) (ag (dC (.int 1)) ar))))) bG)
 (bo (dIf (dB (dOp rGt (ah 3) (dC (.int 0)))) (ah 2) (ax qh (ag (ah 2) ar)))))))
section
variable {U:Mu}{Qd:DK}{ds:List D}
theorem O3{lo:Int}{n:Nat}{x:PyData}(h:x∈mL lo n):∃i:Int,x = .int i/\lo<=i/\i<lo+n:=by
 unfold mL at h
 obtain⟨k,hk,rfl⟩:=List.mem_map.mp h
 have:=List.mem_range.mp hk
 exact⟨_,rfl,∅,∅⟩
noncomputable def GO:PyData->Option PyData
 |.int i=>if Im i then some (.int i) else none
 |_=>none
noncomputable def Co:List PyData:=[2,3,5,6,7,8,10,11,12,13,14,15,17,18,19,20,21,22,23,24,26,27,28,29,30].map PyData.int
theorem in4(i:Int):(List.any [PyData.int 4,PyData.int 9,PyData.int 16,PyData.int 25] fun b=>PyData.eqv b (.int i))=(decide (i=4) || decide (i=9) || decide (i=16) || decide (i=25)):=by
 have ev:∀j:Int,PyData.eqv (.int j) (.int i)=decide (i=j):=fun j=>by rw[UG];simp[eq_comm]
 simp only[List.any_cons,List.any_nil,ev,Bool.or_false,Bool.or_assoc]
theorem DJ(h:xx ds U Qd):nD ‹Qd› (aK ["_law_bag_here","_law_some"] ds) U:=by
 obtain⟨a,rfl,hb,q⟩:=h
 unfold nD
 walk_at "rd"
 refine⟨a,2,rfl,⋯,⋯,hb,fun r0 ad h0 h1 s1=>?_⟩
 walk_at "rd"
 by_cases hr:r0=0
 ·rw[if_pos (by simpa using hr)]
  refine⟨a,3,rfl,⋯,⋯,s1.1,fun r1 am h2 h3 s2=>?_⟩
  walk_at "rd"
  obtain⟨w,e,i,rfl,w0⟩:=pick (P:=fun d=>∃i:Int,d = .int i/\aH i) (xs:=[PyData.int 2,PyData.int 3,PyData.int 5]) h2 (by exact h3) (by
   intro x hx
   simp only[mem_cons,not_mem_nil,or_false] at hx
   rcases hx with rfl|rfl|rfl<;>exact⟨_,rfl,by unfold aH;omega⟩)
  rw[e]
  exact q _ _ w0 (s1.trans s2)
 ·rw[if_neg (by simpa using hr)]
  refine⟨⟨⋯,⋯,⋯,⋯⟩,⋯,fun p hp=>⟨fun i acc Z=>acc=((mL 2 29).take i).filterMap GO/\Z=aR ad p acc,⟨rfl,rfl⟩,?_,?_⟩⟩
  ·rintro i x acc Z hx hpa ⟨e0,e1⟩
   obtain⟨k,rfl,i0,i1⟩:=O3 (mem_of_getElem? hx)
   refine⟨trivial,rfl,rfl,by show 0<=60;decide,?_⟩
   rw[in4]
   have i1':k<31:=by simpa using i1
   have e:GO (.int k)=if Im k then some (.int k) else none:=rfl
   have e2:Im k = !(decide (k=4) || decide (k=9) || decide (k=16) || decide (k=25)):=by
    unfold Im
    rw[decide_eq_true i0,decide_eq_true (show k<=30 by omega)]
    rfl
   have ft:((mL 2 29).take (i+1)).filterMap GO=((mL 2 29).take i).filterMap GO++(GO (.int k)).toList:=RB hx
   rw[e,e2] at ft
   cases hh:(decide (k=4) || decide (k=9) || decide (k=16) || decide (k=25))
   ·rw[hh] at ft
    simp only[true_xor,Bool.not_false,↓reduceIte] at ft ⊢
    refine⟨hpa,?_,?_⟩
    ·rw[ft,e0];rfl
    ·rw[e1,ic]
   ·rw[hh] at ft
    simp only[true_xor,Bool.not_true,↓reduceIte,false_eq_true] at ft ⊢
    refine⟨hpa,?_,e1⟩
    rw[ft,e0];simp
  rintro acc Z ⟨e0,e1⟩ _
  have ed:lK Z p=ad:=by rw[e1];exact p5 hp
  rw[ed]
  have e0':acc=Co:=by rw[e0];rfl
  rw[e0']
  refine⟨a,25,rfl,⋯,⋯,s1.1,fun r1 am h2 h3 s2=>?_⟩
  walk_at "rd"
  obtain⟨w,e,i,rfl,w0⟩:=pick (P:=fun d=>∃i:Int,d = .int i/\aH i) (xs:=Co) h2 (by exact h3) (by
   intro x hx
   unfold Co at hx
   obtain⟨k,hk,rfl⟩:=List.mem_map.mp hx
   exact⟨_,rfl,(show ∀k∈([2,3,5,6,7,8,10,11,12,13,14,15,17,18,19,20,21,22,23,24,26,27,28,29,30]:List Int),aH k by unfold aH;decide) k hk⟩)
  rw[e]
  exact q _ _ w0 (s1.trans s2)
noncomputable def sA:DSp:=fun ds U Q=>∃(a:Addr) (d:Int),ds=[.m a,.v (.int d)]/\aH d/\Bag U a/\∀x Z,Ok x->Bd 20 x->sg d x.a x.b=1->Step a U Z->Q (.v (dN x)) Z
theorem AM(h:sA ds U Qd):kS ‹Qd› (aK ["_law_bag_here","_law_d","_law_x","_law_sign_here"] ds) U:=by
 obtain⟨a,d,rfl,hd,hb,q⟩:=h
 unfold kS
 walk_at "rd"
 refine⟨a,rfl,hb,fun x ad ox bx s1=>?_⟩
 walk_at "rd"
 refine⟨d,x,rfl,hd,bx.mono ⋯,?_⟩
 walk_at "rd"
 have t:=oB d x.a x.b
 by_cases h0:sg d x.a x.b=0
 ·rw[if_pos (by simpa using h0)]
  refine⟨a,5,rfl,⋯,⋯,s1.1,fun r am r0 r1 s2=>?_⟩
  walk_at "rd"
  have ok:Ok ⟨1+r,0,1⟩:=⟨by show (0:Int)<1;decide,by unfold g3;simp⟩
  refine q ⟨1+r,0,1⟩ am ok ⟨GL (by show -1048576<1+r;omega) (by show 1+r<1048576;omega),GL (by show -1048576<(0:Int);decide) (by show (0:Int)<1048576;decide),GL (by show -1048576<(1:Int);decide) (by show (1:Int)<1048576;decide)⟩ ?_ (s1.trans s2)
  show sg d (1+r) 0=1
  unfold sg
  rw[if_neg ∅,if_pos ∅]
 ·rw[if_neg (by simpa using h0)]
  by_cases h1:0<sg d x.a x.b
  ·rw[if_pos (by simpa using h1)]
   exact q x ad ox bx ∅ s1
  ·rw[if_neg (by simpa using h1)]
   refine⟨x,rfl,?_⟩
   refine q (minus x) ad (pD ox) (xO bx) ?_ s1
   show sg d (-x.a) (-x.b)=1
   rw[Ad hd]
   omega
end
section
variable {U:Mu}{Q:DK}{ds:List D}
noncomputable def xH:DSp:=fun ds U Q=>∃ns:List Int,ds=[.s ns]/\ns.length<=63/\∀Z,Q (.v (.bool true)) Z
theorem EL(h:nI ds U Q):ds.length=1:=by obtain⟨_,rfl,_⟩:=h;rfl
theorem BR(h:tO ds U Q):ds.length=2:=by obtain⟨_,_,rfl,_⟩:=h;rfl
theorem HI(h:yG ds U Q):ds.length=3:=by obtain⟨_,_,_,rfl,_⟩:=h;rfl
theorem Hl(h:vb ds U Q):ds.length=1:=by obtain⟨_,rfl,_⟩:=h;rfl
theorem tR(h:cE ds U Q):ds.length=3:=by obtain⟨_,_,_,rfl,_⟩:=h;rfl
theorem GB(h:qh ds U Q):ds.length=1:=by obtain⟨_,rfl,_⟩:=h;rfl
theorem zr(h:ig ds U Q):ds.length=2:=by obtain⟨_,_,rfl,_⟩:=h;rfl
theorem G5(h:rN ds U Q):ds.length=2:=by obtain⟨_,_,rfl,_⟩:=h;rfl
theorem wN(h:dI ds U Q):ds.length=3:=by obtain⟨_,_,_,rfl,_⟩:=h;rfl
theorem o6(h:dS ds U Q):ds.length=2:=by obtain⟨_,_,rfl,_⟩:=h;rfl
theorem zQ(h:nk ds U Q):ds.length=3:=by obtain⟨_,_,_,rfl,_⟩:=h;rfl
theorem GQ(h:sF ds U Q):ds.length=3:=by obtain⟨_,_,_,rfl,_⟩:=h;rfl
theorem x5(h:kJ ds U Q):ds.length=2:=by obtain⟨_,_,rfl,_⟩:=h;rfl
theorem Fs(h:xi ds U Q):ds.length=3:=by obtain⟨_,_,_,rfl,_⟩:=h;rfl
theorem KZ(h:Iv ds U Q):ds.length=2:=by obtain⟨_,_,rfl,_⟩:=h;rfl
theorem AQ(h:qo ds U Q):ds.length=1:=by obtain⟨_,rfl,_⟩:=h;rfl
theorem Gg(h:xx ds U Q):ds.length=1:=by obtain⟨_,rfl,_⟩:=h;rfl
theorem CW(h:sA ds U Q):ds.length=2:=by obtain⟨_,_,rfl,_⟩:=h;rfl
theorem Kg(h:xH ds U Q):ds.length=1:=by obtain⟨_,rfl,_⟩:=h;rfl
end
structure TB(K:PySem.W.Frag)(mg:Str->Option Value)(x:Str)(g:Addr)(a b c:Int):Prop where
 m:mg x=some (.ref g)
 l:∃(od:Option Addr) (n:Nat) (sl:Array (Option Value)) (t u v:Tok),K.lookup g=some ⟨.type "tuple",od,.seq #[.int a t,.int b u,.int c v] n,sl⟩
theorem FT{X:Cx}{x:Str}{g:Addr}{a b c:Int}{pos:Pos}(hg:Gl X x)(h:TB X.K X.mg x g a b c)(hd:(x==("__debug__":Str))=false:=by decide):DE X (.Name x pos) (dC (.tuple [.int a,.int b,.int c])):=by
 obtain⟨od,n,sl,t,u,v,e⟩:=h.l
 refine xp (u:=.ref g) hg h.m rfl (fun U H _=>Rp.tuple (xs:=[.int a,.int b,.int c]) (.inr ⟨_,_,_,e,rfl,rfl,(by show 3<=sizeLine;decide),.cons ⟨t,rfl⟩ (.cons ⟨u,rfl⟩ (.cons ⟨v,rfl⟩ .nil))⟩) (.cons (.int a) (.cons (.int b) (.cons (.int c) .nil)))) hd
theorem J1{K:PySem.W.Frag}{H:Hp}{a:Addr}{ns:List Int}(hl:ns.length<=63)(hT:Ar K H)(hS:SqL K H a (ns.map V.int)):spD K xH [.ref a] H (fun v _=>v = .bl true) fun _ _ _=>False:=by
 refine⟨[.s ns],⟨fun _=>none,fun _=>none⟩,fun d _=>d = .v (.bool true),⟨fun a ds h=>(by cases h),hT,fun a c h=>(by cases h)⟩,.cons ⟨a,rfl,hS,rfl⟩ .nil,⟨ns,rfl,hl,fun _=>rfl⟩,fun d u Z H' _ _ r q=>?_⟩
 subst q
 cases r
 rfl
end L2.DL
namespace L2
open PySem PySem.Spec PyProof.Rows
end L2
namespace L2.DL
open PySem PySem.Spec PyProof.Rows
end L2.DL
namespace L2
open PySem PySem.Spec PyProof.Rows
end L2
namespace L2.DL
open PySem PySem.Spec PyProof.Rows
end L2.DL
namespace L2
open PySem PySem.Spec PyProof.Rows
end L2
namespace L2.DL
open PySem PySem.Spec PyProof.Rows
end L2.DL
namespace L2
open PySem PySem.Spec PyProof.Rows
end L2
namespace L2
open PySem PySem.Spec PyProof.Rows
end L2
namespace L2.DL
open PySem PySem.Spec PyProof.Rows
noncomputable def intsOf:List PyData->Option (List Int)
 |[]=>some []
 |.int i::r=>(intsOf r).map (i::·)
 |_=>none
theorem Ik{K:PySem.W.Frag}{U:Mu}{H:Hp}:∀{ds:List PyData} {us:List V} {k:List Int},RpL K U H ds us->intsOf ds=some k->us=k.map V.int
 |[],_,_,.nil,e=>by cases e;rfl
 |d::ds,_,k,.cons h t,e=>by
  cases d with
  |int i=>
   cases h
   rw[intsOf] at e
   cases q:intsOf ds with
   |none=>rw[q] at e;cases e
   |some k'=>rw[q] at e;cases e;rw[Ik t q];rfl
  |_=>cases e
section
variable {α:Type}
noncomputable def cq(kvs:List (List Int×α))(k:List Int):Option α:=(kvs.find? fun x=>decide (x.1=k)).map (·.2)
noncomputable def jg(kvs:List (List Int×α))(k:List Int)(v:α):List (List Int×α):=if (cq kvs k).isSome=true then kvs.map (fun x=>if x.1=k then (x.1,v) else x) else kvs++[(k,v)]
theorem dD{p:List Int×α}{r:List (List Int×α)}{k:List Int}(e:p.1=k):cq (p::r) k=some p.2:=by simp[cq,List.find?_cons,e]
theorem dE{p:List Int×α}{r:List (List Int×α)}{k:List Int}(e:¬ p.1=k):cq (p::r) k=cq r k:=by simp[cq,List.find?_cons,e]
theorem Bc(k j:List Int)(v:α):∀kvs:List (List Int×α),cq (kvs.map fun x=>if x.1=k then (x.1,v) else x) j=if j=k then (cq kvs j).map (fun _=>v) else cq kvs j
 |[]=>by split<;>rfl
 |p::r=>by
  have ih:=Bc k j v r
  rw[map_cons]
  by_cases h:p.1=k
  ·rw[if_pos h]
   by_cases e:p.1=j
   ·rw[dD (p:=(p.1,v)) e,if_pos (e.symm.trans h),dD e];rfl
   ·rw[dE (p:=(p.1,v)) e,ih,dE e]
  ·rw[if_neg h]
   by_cases e:p.1=j
   ·rw[dD e,if_neg (fun z=>h (e.trans z)),dD e]
   ·rw[dE e,ih,dE e]
theorem xZ(k j:List Int)(v:α):∀kvs:List (List Int×α),cq kvs k=none->cq (kvs++[(k,v)]) j=if j=k then some v else cq kvs j
 |[],_=>by
  by_cases e:k=j
  ·rw[if_pos e.symm];exact dD (p:=(k,v)) e
  ·rw[if_neg (fun z=>e z.symm)];exact dE (p:=(k,v)) e
 |p::r,h=>by
  rw[cons_append]
  by_cases e:p.1=k
  ·rw[dD e] at h;cases h
  ·rw[dE e] at h
   by_cases f:p.1=j
   ·rw[dD f,dD f,if_neg (fun z=>e (f.trans z))]
   ·rw[dE f,xZ k j v r h,dE f]
theorem KJ(kvs:List (List Int×α))(k j:List Int)(v:α):cq (jg kvs k v) j=if j=k then some v else cq kvs j:=by
 unfold jg
 cases q:cq kvs k with
 |none=>
  rw[if_neg (fun z=>nomatch z)]
  exact xZ k j v kvs q
 |some x=>
  rw[if_pos (show (some x).isSome=true from rfl),Bc]
  by_cases e:j=k
  ·subst e;rw[if_pos rfl,if_pos rfl,q];rfl
  ·rw[if_neg e,if_neg e]
theorem LA{kvs:List (List Int×α)}{k:List Int}{v:α}(h:cq kvs k=none):jg kvs k v=kvs++[(k,v)]:=by unfold jg;rw[h];rfl
theorem xU(kvs:List (List Int×α))(k:List Int)(v:α):(jg kvs k v).length<=kvs.length+1:=by
 unfold jg
 split
 ·rw[length_map];omega
 ·rw[length_append];exact Nat.le_refl _
end
section
variable {K:PySem.W.Frag}{U ad:Mu}{H H1:Hp}{p:Addr}
theorem gE.look{kvs:List (List Int×PyData)}{xs:List (List Int×Addr×Value)}(r:gE K U H kvs xs)(k:List Int) :
  (cq kvs k=none/\atKey xs k=none)\/∃d q v w,cq kvs k=some d/\atKey xs k=some (q,w)/\Rp K U H d v/\RelV v w:=by
 unfold gE at r
 induction r with
 |nil=>exact .inl ⟨rfl,rfl⟩
 |@cons a b as bs h t ih=>
  obtain⟨h1,h2,v,h3,h4⟩:=h
  by_cases e:a.1=k
  ·refine .inr ⟨a.2,b.2.1,v,b.2.2,dD e,?_,h3,h4⟩
   have:b.1=k:=h1.symm.trans e
   simp[atKey,List.find?_cons,this]
  ·have e2:¬ b.1=k:=fun z=>e (h1.trans z)
   have e3:atKey (b::bs) k=atKey bs k:=by simp[atKey,List.find?_cons,e2]
   rw[dE e,e3]
   exact ih
theorem gE.put{kvs:List (List Int×PyData)}{xs:List (List Int×Addr×Value)}(r:gE K U H kvs xs){k:List Int}{q:Addr}{d:PyData}{v:V}{w:Value}(hq:SqT K H q (k.map V.int))(hd:Rp K U H d v)(hv:RelV v w) :
  gE K U H (jg kvs k d) (storedH xs k q w):=by
 have hl:=r.look k
 unfold jg storedH
 rcases hl with ⟨l1,l2⟩|⟨d',q',v',w',l1,l2,_,_⟩
 ·rw[l1,l2]
  exact Paired.snoc r ⟨rfl,hq,v,hd,hv⟩
 ·rw[l1,l2]
  rw[if_pos (show (some d').isSome=true from rfl),if_pos (show (some (q',w')).isSome=true from rfl)]
  clear l1 l2
  unfold gE at r ⊢
  induction r with
  |nil=>exact .nil
  |@cons a b as bs h t ih=>
   obtain⟨h1,h2,h3⟩:=h
   refine .cons ?_ ih
   unfold putAt
   dsimp only
   by_cases e:a.1=k
   ·rw[if_pos e,if_pos (h1.symm.trans e)]
    exact⟨h1,h2,v,hd,hv⟩
   ·rw[if_neg e,if_neg (fun z=>e (h1.trans z))]
    exact⟨h1,h2,h3⟩
theorem gE.length{kvs:List (List Int×PyData)}{xs:List (List Int×Addr×Value)}(r:gE K U H kvs xs):kvs.length=xs.length:=Paired.length r
theorem xl{o o':Obj}{c:Box}(h:H p=some (.raw o)):Ext K U H (bP U p c) (upd H p (.raw o')) where
 keep:=fun b u e n t=>by
  have:b≠p:=fun z=>by rw[z,h] at e;cases e;exact t
  rw[aP this];exact e
 tb:=fun b ps e n=>by
  have:b≠p:=fun z=>by rw[z,h] at e;cases e
  exact⟨ps,by rw[aP this];exact e⟩
 dom:=fun b ds q=>⟨ds,q⟩
 fresh:=fun b n q=>n
 st:=fun b u e n=>by
  by_cases z:b=p
  ·subst z;exact⟨_,bS⟩
  ·exact⟨u,by rw[aP z];exact e⟩
 bx:=fun b c' q=>by
  by_cases z:b=p
  ·subst z;exact⟨_,br⟩
  ·exact⟨c',by rw[bT z];exact q⟩
theorem bC.Hu{c:Box}{o o':Obj}(ok:bC K U H)(hs:(p==sysModules)=false)(h:H p=some (.raw o))(r:iF K U H c o'):bC K (bP U p c) (upd H p (.raw o')):=by
 have e:Ext K U H (bP U p c) (upd H p (.raw o')):=xl h
 refine⟨fun a ds q=>?_,ok.tab.of fun b u e' n1 n2=>?_,fun a c' q=>?_⟩
 ·obtain⟨xs,h1,h2⟩:=ok.lst a ds q
  have:a≠p:=fun z=>by rw[z,h] at h1;cases h1
  exact⟨xs,by rw[aP this];exact h1,h2.ext ok e⟩
 ·have:b≠p:=fun z=>by rw[z,h] at e';exact n2 o (Option.some.inj e').symm
  rw[aP this];exact e'
 ·by_cases z:a=p
  ·subst z
   rw[br] at q;cases q
   exact⟨hs,o',bS,r.ext ok e⟩
  ·rw[bT z] at q
   obtain⟨y,ob,h1,h2⟩:=ok.box a c' q
   exact⟨y,ob,by rw[aP z];exact h1,h2.ext ok e⟩
theorem nE{o:Obj}{c:Box}(ok:bC K U H)(h:H p=none):Ext K U H (bP U p c) (upd H p (.raw o)) where
 keep:=fun b u e _ _=>by rw[aP (aI e h)];exact e
 tb:=fun b ps e _=>⟨ps,by rw[aP (aI e h)];exact e⟩
 dom:=fun b ds q=>⟨ds,q⟩
 fresh:=fun b n q=>n
 st:=fun b u e _=>⟨u,by rw[aP (aI e h)];exact e⟩
 bx:=fun b c' q=>by
  have:b≠p:=fun z=>by rw[z,ok.Jz h] at q;cases q
  exact⟨c',by rw[bT this];exact q⟩
theorem bC.HN{c:Box}{o:Obj}(ok:bC K U H)(hs:(p==sysModules)=false)(h:H p=none)(r:iF K U H c o):bC K (bP U p c) (upd H p (.raw o)):=by
 have e:Ext K U H (bP U p c) (upd H p (.raw o)):=nE ok h
 refine⟨fun a ds q=>?_,ok.tab.of fun b u e' _ _=>?_,fun a c' q=>?_⟩
 ·obtain⟨xs,h1,h2⟩:=ok.lst a ds q
  exact⟨xs,by rw[aP (aI h1 h)];exact h1,h2.ext ok e⟩
 ·rw[aP (aI e' h)];exact e'
 ·by_cases z:a=p
  ·subst z
   rw[br] at q;cases q
   exact⟨hs,o,bS,r.ext ok e⟩
  ·rw[bT z] at q
   obtain⟨y,ob,h1,h2⟩:=ok.box a c' q
   exact⟨y,ob,by rw[aP z];exact h1,h2.ext ok e⟩
theorem BM{o:Obj}(h:o={cls:=.type "dict",data:=.dict #[]}):iF K U H (.dict []) o:=by
 subst h
 exact⟨zero_le _,⟨rfl,rfl,rfl⟩,#[],0,[],rfl,rfl,List.nodup_nil,.nil⟩
theorem ND{o:Obj}{led:Bool}(h:o={cls:=.type "set",dict:=none,data:=.set #[] 0 (.fresh 0 0 led)}):iF K U H (.set []) o:=by
 subst h
 exact⟨⟨rfl,rfl,rfl⟩,[],0,_,rfl,{place:=rfl,ris:=.nil,le:=fun _ h=>by simp at h,dum:=rfl,two:=⟨3,rfl,Nat.le_refl _⟩,on:=fun _ h=>by simp at h},(show 0*5<7*3 by decide),rfl,fun _ h=>by simp at h,fun _ h=>by simp at h⟩
end
section
variable {X:Cx}{pins:List (Addr×Obj)}{σ:St}{H:Hp}{s:Shared}{U:Mu}
theorem items_int{P:Program}{w:World}:∀{ks:List Int} {us:List Value},Vals (ks.map V.int) us->ItemsAre (intKind P w) ks us
 |[],_,r=>by rw[map_nil] at r;cases r;exact .nil
 |k::ks,_,r=>by
  rw[map_cons] at r
  cases r with
  |cons h t=>obtain⟨tk,rfl⟩:=h;exact .cons (by show Value.isInt k (.int k tk)=true;simp[Value.isInt]) (items_int t)
theorem iw{q:Addr}{ks:List Int}(I:Inv X pins σ H s)(h:SqT X.K H q (ks.map V.int)):IsTupleKey (intKind X.prog X.w) s.heap ks q:=by
 obtain⟨its,r,⟨o,h1,h2,n,h3⟩,_⟩:=I.tuple h
 exact⟨o,its.toArray,n,h1,h2,h3,by simpa using items_int r⟩
theorem M8{kvs:List (List Int×PyData)}{xs:List (List Int×Addr×Value)}(I:Inv X pins σ H s)(r:gE X.K U H kvs xs):∀x∈xs,IsTupleKey (intKind X.prog X.w) s.heap x.1 x.2.1:=by
 unfold gE at r
 induction r with
 |nil=>intro x hx;exact nomatch hx
 |@cons a b as bs h t ih=>
  intro x hx
  rcases List.mem_cons.mp hx with rfl|hx
  ·obtain⟨h1,h2,_⟩:=h
   rw[<- h1]
   exact iw I h2
  ·exact ih x hx
theorem qg{kvs:List (List Int×PyData)}{a:Addr}{o:Obj}(I:Inv X pins σ H s)(h:H a=some (.raw o))(r:iF X.K U H (.dict kvs) o) :
  ∃xs,gE X.K U H kvs xs/\s.heap.DictOfH (tupleKind (intKind X.prog X.w)) a xs/\xs.length<=sizeLine:=by
 obtain⟨h1,h2,es,ep,xs,h3,h4,h5,h6⟩:=r
 exact⟨xs,h6,⟨o,es,ep,(show s.heap.get? a=some o from I.hok a _ h),h2,h3,h4,M8 I h6,h5⟩,by rw[<- h6.length];exact h1⟩
theorem Bw{kvs:List (List Int×PyData)}{a:Addr}{xs:List (List Int×Addr×Value)}{h':Heap}(hl:kvs.length<=sizeLine)(r:gE X.K U H kvs xs)(d:h'.DictOfH (tupleKind (intKind X.prog X.w)) a xs) :
  ∃o,h'.get? a=some o/\iF X.K U H (.dict kvs) o:=by
 obtain⟨o,es,ep,h1,h2,h3,h4,_,h5⟩:=d
 exact⟨o,h1,hl,h2,es,ep,xs,h3,h4,h5,r⟩
end
section
variable {X:Cx}{pins:List (Addr×Obj)}{σ:St}{H:Hp}{s:Shared}{U:Mu}{A:Around}{E:Value->Shared->Prop}
theorem HB{ks:List (List Int)}{a:Addr}{o:Obj}(I:Inv X pins σ H s)(h:H a=some (.raw o))(r:iF X.K U H (.set ks) o) :
  ∃L:ST.Ln Value,ST.Ga s.heap a L/\L.length=ks.length/\(∀x∈L,∃k,ST.Ent (intKind X.prog X.w) s.heap x k/\k∈ks)/\(∀k∈ks,∃x∈L,ST.Ent (intKind X.prog X.w) s.heap x k) /\
   (∀x∈L,∃k q,x.2.2 = .ref q/\SqT X.K H q (k.map V.int)/\x.2.1=hI k/\k∈ks)/\∀k∈ks,∃x∈L,∃q,x.2.2 = .ref q/\SqT X.K H q (k.map V.int):=by
 obtain⟨h1,L,ep,t,h2,h3,h4,h5,h6,h7⟩:=r
 have ent:∀x∈L,∃k,ST.Ent (intKind X.prog X.w) s.heap x k/\k∈ks:=fun x hx=>by
  obtain⟨k,q,z1,z2,z3,z4⟩:=h6 x hx
  exact⟨k,⟨q,z1,iw I z2,z3⟩,z4⟩
 refine⟨L,⟨o,ep,t,(show s.heap.get? a=some o from I.hok a _ h),h1,h2,h3,h4⟩,h5,ent,fun k hk=>?_,h6,h7⟩
 obtain⟨x,hx,q,z1,z2⟩:=h7 k hk
 obtain⟨k',e',_⟩:=ent x hx
 have:k=k':=by
  obtain⟨q',y1,y2,_⟩:=e'
  rw[z1] at y1;cases y1
  exact (iw I z2).inj y2
 subst this
 exact⟨x,hx,e'⟩
theorem JD{L:ST.Ln Value}{ks:List (List Int)}{h:Heap}{k:List Int}(a:∀x∈L,∃k,ST.Ent (intKind X.prog X.w) h x k/\k∈ks)(b:∀k∈ks,∃x∈L,ST.Ent (intKind X.prog X.w) h x k) :
  (∃x∈L,ST.Ent (intKind X.prog X.w) h x k)↔k∈ks:=by
 constructor
 ·rintro ⟨x,hx,e⟩
  obtain⟨k',e',hk⟩:=a x hx
  rw[e.inj e'];exact hk
 ·exact b k
theorem RU{ks:List (List Int)}{a q:Addr}{o:Obj}{k:List Int}{Q:Value->Shared->Prop}(hu:A.units+64<cLine)(I:Inv X pins σ H s)(h:H a=some (.raw o))(r:iF X.K U H (.set ks) o)(hk:SqT X.K H q (k.map V.int))(hb:ks.length<=9800)
  (hq:∀s',Inv X pins σ H s'->Q (.bool (decide (k∈ks))) s'):wpAny (model X.prog X.w) A (compareOp .In (.ref q) (.ref a)) Q E s:=by
 obtain⟨L,S,len,en1,en2,_,_⟩:=HB I h r
 have hT:s.TypeIs (.ref a) "set":=let ⟨o,_,_,ho,hc,_⟩:=S;⟨o,ho,hc.1⟩
 show wpAny _ _ (do return .bool (<- contains (.ref a) (.ref q))) Q E s
 refine wpAny_bind ?_
 unfold contains
 try with_reducible refine wpAny_holding ?_
 refine wpAny_bind (wpAny_specialOf hT PySem.F.slot_set_contains.lookup ?_)
 show wpAny _ _ (if (some (Value.builtin "set.__contains__")==some Value.none)=true then _ else _) _ E s
 rw[if_neg (by rw[beq_builtin_none];exact Bool.false_ne_true)]
 refine wpAny_bind (wpAny_callSpecialUnlessNone?_slot (name:=Str.ofString "__contains__") hT PySem.F.slot_set_contains
  (wpAny_call_entry PySem.F.slot_set_contains hT entry_set_contains ?_ (PySem.F.args_set_contains_2 _ _)))
 unfold Builtin.«frozenset.__contains__» Builtin.Frozenset.oneOther
 simp only[List.isEmpty_nil,bind_assoc]
 unfold Builtin.Frozenset.addrOf Builtin.Frozenset.withSetAsKey
 refine wpAny_bind (wpAny_pure ?_)
 try dsimp only
 refine wpAny_bind (wpAny_pure ?_)
 try dsimp only
 refine wpAny_bind (wpAny_tryCatch ?_)
 refine ST.FL (by show A.units+1<cLine;omega) S (fun x hx=>let ⟨k,e,_⟩:=en1 x hx;⟨k,e⟩) ∅ (iw I hk) fun b hbq=>?_
 have e:b=decide (k∈ks):=by
  rw[Bool.eq_iff_iff,hbq,JD en1 en2,decide_eq_true_eq]
 show wpAny _ _ (ret (Value.bool b)) _ _ _
 exact wpAny_pure ⟨_,rfl,wpAny_truthy_bool (wpAny_pure (by rw[e];exact hq _ (I.tok _)))⟩
theorem Pa{ks:List (List Int)}{a q:Addr}{o:Obj}{k:List Int}{Q:Value->Shared->Prop}(hu:A.units+64<cLine)(I:Inv X pins σ H s)(h:H a=some (.raw o))(r:iF X.K U H (.set ks) o)(hk:SqT X.K H q (k.map V.int))(hb:ks.length<=9800)(hn:k ∉ ks)
  (hq:∀o' s',Inv X pins σ (upd H a (.raw o')) s'->iF X.K U H (.set (ks++[k])) o'->Q .none s'):wpAny (model X.prog X.w) A (call (.builtin "set.add") [.ref a,.ref q]) Q E s:=by
 obtain⟨L,S,len,en1,en2,r1,r2⟩:=HB I h r
 have hT:s.TypeIs (.ref a) "set":=let ⟨o,_,_,ho,hc,_⟩:=S;⟨o,ho,hc.1⟩
 refine wpAny_call_entry PySem.F.slot_set_add hT PySem.F.entry_set_add ?_ (PySem.F.args_set_add_2 _ _)
 unfold Builtin.«set.add» Builtin.Frozenset.oneOther
 simp only[List.isEmpty_nil,bind_assoc]
 unfold Builtin.Frozenset.addrOf
 refine wpAny_bind (wpAny_pure ?_)
 try dsimp only
 refine wpAny_bind (wpAny_pure ?_)
 try dsimp only
 refine wpAny_bind ?_
 refine ST.Sd (by show A.units+1<cLine;omega) S (fun x hx=>let ⟨k,e,_⟩:=en1 x hx;⟨k,e⟩) ∅ (iw I hk) (fun z=>absurd ((JD en1 en2).mp z) hn) fun _ h' L' sb S' len' mem'=>?_
 obtain⟨o',ep,t,ho,hex,hd,T,hr⟩:=S'
 show wpAny _ _ (ret Value.none) _ _ _
 refine wpAny_pure ⟨_,rfl,hq o' _ (Cq I (by rw[h];exact True.intro) sb ⟨o',ho⟩ ho) ⟨hex,L',ep,t,hd,T,hr,by rw[len',len,length_append];rfl,fun x hx=>?_,fun k' hk'=>?_⟩⟩
 ·rcases (mem' x.2).mp (List.mem_map.mpr ⟨x,hx,rfl⟩) with z|z
  ·obtain⟨y,hy,ey⟩:=List.mem_map.mp z
   obtain⟨k',q',y1,y2,y3,y4⟩:=r1 y hy
   exact⟨k',q',by rw[<- ey];exact y1,y2,by rw[<- ey];exact y3,mem_append_left _ y4⟩
  ·exact⟨k,q,by rw[z],hk,by rw[z];rfl,mem_append_right _ (List.mem_singleton.mpr rfl)⟩
 ·rcases List.mem_append.mp hk' with z|z
  ·obtain⟨y,hy,q',y1,y2⟩:=r2 k' z
   obtain⟨x,hx,ex⟩:=List.mem_map.mp ((mem' y.2).mpr (.inl (List.mem_map.mpr ⟨y,hy,rfl⟩)))
   exact⟨x,hx,q',by rw[ex];exact y1,y2⟩
  ·rw[mem_singleton] at z
   subst z
   obtain⟨x,hx,ex⟩:=List.mem_map.mp ((mem' (tupleKeyHash (intKind X.prog X.w) k',.ref q)).mpr (.inr rfl))
   exact⟨x,hx,q,by rw[ex],hk⟩
end
section
variable {X:Cx}{a b e o:Expr}{ta tb te to:DTE}{pos p apos cpos:Pos}
theorem DE.mk{td:DTE}(h:∀(pins:List (Addr×Obj)) (s:Shared) (σ:St) (H:Hp) (ρ:Rho) (U:Mu) (Qd:DK),Inv X pins σ H s->St0 X.K H ρ U σ->td ρ U Qd ->
  wpAny (model X.prog X.w) X.A (eval e X.env) (fun v s'=>∃d u Z H',Inv X pins σ H' s'/\RelV u v/\Ext X.K U H Z H'/\St0 X.K H' ρ Z σ/\RpD X.K Z H' d u/\Qd d Z) X.xe s):DE X e td:=by
 refine⟨fun σ H Q=>∃ρ U Qd,St0 X.K H ρ U σ/\td ρ U Qd/\∀d u Z H',Ext X.K U H Z H'->St0 X.K H' ρ Z σ->RpD X.K Z H' d u->Qd d Z->Q u H',?_,fun σ H ρ U Qd Q S h k=>⟨ρ,U,Qd,S,h,k⟩⟩
 intro pins s σ H Q I ⟨ρ,U,Qd,S,q,k⟩
 exact wpAny_mono (h pins s σ H ρ U Qd I S q) (fun v s' ⟨d,u,Z,H',I',rv,ex,S',rd,q'⟩=>⟨u,H',I',rv,k d u Z H' ex S' rd q'⟩) fun _ _ z=>z
theorem DE.use{td:DTE}(h:DE X e td){pins:List (Addr×Obj)}{s:Shared}{σ:St}{H:Hp}{ρ:Rho}{U:Mu}{Qd:DK}(I:Inv X pins σ H s)(S:St0 X.K H ρ U σ)(q:td ρ U Qd) :
  wpAny (model X.prog X.w) X.A (eval e X.env) (fun v s'=>∃d u Z H',Inv X pins σ H' s'/\RelV u v/\Ext X.K U H Z H'/\St0 X.K H' ρ Z σ/\RpD X.K Z H' d u/\Qd d Z) X.xe s:=by
 obtain⟨t,p,l⟩:=h
 exact wpAny_mono (p pins s σ H (fun u H'=>∃d Z,Ext X.K U H Z H'/\St0 X.K H' ρ Z σ/\RpD X.K Z H' d u/\Qd d Z) I (l σ H ρ U Qd _ S q fun d u Z H' ex S' r z=>⟨d,Z,ex,S',r,z⟩))
  (fun v s' ⟨u,H',I',rv,d,Z,ex,S',r,z⟩=>⟨d,u,Z,H',I',rv,ex,S',r,z⟩) fun _ _ z=>z
noncomputable def CF:DTE:=fun _ U Q=>∀p,U.b p=none->Q (.b p) (bP U p (.set []))
noncomputable def CG:DTE:=fun _ U Q=>∀p,U.b p=none->Q (.b p) (bP U p (.dict []))
theorem FP{ρ:Rho}{U:Mu}{Q:DK}:CF ρ U Q = ∀p,U.b p=none->Q (.b p) (bP U p (.set [])):=rfl
theorem EI{ρ:Rho}{U:Mu}{Q:DK}:CG ρ U Q = ∀p,U.b p=none->Q (.b p) (bP U p (.dict [])):=rfl
theorem G1{pins:List (Addr×Obj)}{s:Shared}{σ:St}{H:Hp}(I:Inv X pins σ H s):(s.heap.objs.size==sysModules)=false:=beq_eq_false_iff_ne.mpr (Ne.symm (ne_of_lt I.big))
theorem J9(hg:Gl X "set")(hm:X.mg "set"=none):DE X (.Call (.Name "set" p) [] [] pos) CF:=by
 refine DE.mk fun pins s σ H ρ U Qd I S q=>?_
 refine wpAny_Call_Name_kw (rZ I hg hm PyProof.Rows.Boot.«set» ?_ ⋯ ⋯)
 refine PyProof.Rows.callWith_type0 (call_set_0 fun led=>?_)
 have hn:=I.hok.fresh (Nat.le_refl s.heap.objs.size)
 have ex:=nE (K:=X.K) (o:={cls:=.type "set",dict:=none,data:=.set #[] 0 (.fresh 0 0 led)}) (c:=.set []) S.mu hn
 refine⟨.b s.heap.objs.size,.ref s.heap.objs.size,bP U s.heap.objs.size (.set []),_,I.laid (a:=s.heap.objs.size) (o:=.raw _) (t':=s.toks) (fun _ _ q=>Heap.get?_push_of_some _ q) (Nat.le_refl _) (Heap.get?_push_size _ rfl),rfl,ex,
  ⟨S.mu.HN (G1 I) hn (ND rfl),S.rho.ext S.mu ex⟩,⟨rfl,_,br⟩,q _ (S.mu.Jz hn)⟩
theorem JW:DE X (.Dict [] [] pos) CG:=by
 refine DE.mk fun pins s σ H ρ U Qd I S q=>?_
 refine wpAny_Dict_empty ?_
 have hn:=I.hok.fresh (Nat.le_refl s.heap.objs.size)
 have ex:=nE (K:=X.K) (o:={cls:=.type "dict",data:=.dict #[]}) (c:=.dict []) S.mu hn
 refine⟨.b s.heap.objs.size,.ref s.heap.objs.size,bP U s.heap.objs.size (.dict []),_,I.laid (a:=s.heap.objs.size) (o:=.raw _) (t':=s.toks) (fun _ _ q=>Heap.get?_push_of_some _ q) (Nat.le_refl _) (Heap.get?_push_size _ rfl),rfl,ex,
  ⟨S.mu.HN (G1 I) hn (BM rfl),S.rho.ext S.mu ex⟩,⟨rfl,_,br⟩,q _ (S.mu.Jz hn)⟩
noncomputable def rQ:D->Option (List Int)
 |.v (.tuple ds)=>intsOf ds
 |_=>none
theorem pX{K:PySem.W.Frag}{U:Mu}{H:Hp}{d:D}{u:V}{k:List Int}(r:RpD K U H d u)(h:rQ d=some k):∃q,u = .ref q/\SqT K H q (k.map V.int):=by
 cases d with
 |v x=>
  cases x with
  |tuple ds=>
   cases r with
   |tuple hs rl=>exact⟨_,rfl,by rw[<- Ik rl h];exact hs⟩
  |_=>cases h
 |_=>cases h
noncomputable def inB(c:Box)(k:List Int):Bool:=match c with
 |.set ks=>decide (k∈ks)
 |.dict kvs=>(cq kvs k).isSome
noncomputable def LZ:Box->Prop
 |.set ks=>ks.length<=9800
 |.dict kvs=>kvs.length<=9800
noncomputable def G3(neg:Bool):D->D->Mu->DK->Prop:=fun x y U Q=>∃k a c,rQ x=some k/\y = .b a/\U.b a=some c/\LZ c/\(neg=true->∃kvs,c = .dict kvs)/\Q (.v (.bool (xor neg (inB c k)))) U
noncomputable def QB(K:PySem.W.Frag)(r:D->D->Mu->DK->Prop):R2:=fun ux uy H Q=>∃x y U Qd,bC K U H/\RpD K U H x ux/\RpD K U H y uy/\r x y U Qd/\∀d u Z H',Ext K U H Z H'->bC K Z H'->RpD K Z H' d u->Qd d Z->Q u H'
theorem LK{K:PySem.W.Frag}{r:D->D->Mu->DK->Prop}:jJ K (QB K r) r:=fun x y ux uy H U Qd Q ok rx ry h k=>⟨x,y,U,Qd,ok,rx,ry,h,k⟩
theorem So(hu:X.A.units+64<cLine):OpR X (compareOp .In) (QB X.K (G3 false)):=by
 intro pins s σ H ux uy v u Q I rv ru h
 obtain⟨x,y,U,Qd,ok,rx,ry,⟨k,a,c,hk,rfl,hc,few,_,q⟩,kk⟩:=h
 obtain⟨qk,rfl,hq⟩:=pX rx hk
 obtain⟨rfl,_⟩:=ry
 cases rv;cases ru
 obtain⟨ns,ob,hr,hb⟩:=ok.box a c hc
 have fin:∀s',Inv X pins σ H s'->EP X pins σ Q (.bool (inB c k)) s':=fun s' I'=>⟨.bl (inB c k),H,I',rfl,kk (.v (.bool (inB c k))) _ U H .refl ok (Rp.bool _) (by rw[false_xor] at q;exact q)⟩
 cases c with
 |set ks=>exact RU hu I hr hb hq few fin
 |dict kvs=>
  obtain⟨xs,dp,dd,len⟩:=qg I hr hb
  refine wpAny_in_heap (tupleKind_room_in1 ∅) (iw I hq) ns dd ?_
  have e:(atKey xs k).isSome=inB (.dict kvs) k:=by
   show _=(cq kvs k).isSome
   rcases dp.look k with ⟨l1,l2⟩|⟨d',q',v',w',l1,l2,_,_⟩
   ·rw[l1,l2];rfl
   ·rw[l1,l2];rfl
  rw[e]
  exact fin _ (I.tok _)
theorem K7(hu:X.A.units+64<cLine):OpR X (compareOp .NotIn) (QB X.K (G3 true)):=by
 intro pins s σ H ux uy v u Q I rv ru h
 obtain⟨x,y,U,Qd,ok,rx,ry,⟨k,a,c,hk,rfl,hc,few,hn,q⟩,kk⟩:=h
 obtain⟨qk,rfl,hq⟩:=pX rx hk
 obtain⟨rfl,_⟩:=ry
 cases rv;cases ru
 obtain⟨ns,ob,hr,hb⟩:=ok.box a c hc
 obtain⟨kvs,rfl⟩:=hn rfl
 obtain⟨xs,dp,dd,len⟩:=qg I hr hb
 refine wpAny_notIn_heap (tupleKind_room_in1 ∅) (iw I hq) ns dd ?_
 have e:(atKey xs k).isSome=inB (.dict kvs) k:=by
  show _=(cq kvs k).isSome
  rcases dp.look k with ⟨l1,l2⟩|⟨d',q',v',w',l1,l2,_,_⟩
  ·rw[l1,l2];rfl
  ·rw[l1,l2];rfl
 rw[e]
 exact⟨.bl (!inB (.dict kvs) k),H,I.tok _,rfl,kk (.v (.bool _)) _ U H .refl ok (Rp.bool _) (by rw[true_xor] at q;exact q)⟩
theorem Si(hu:X.A.units+64<cLine)(ha:DE X a ta)(hb:DE X b tb)(hm:behindInMarks .In b=false:=by rfl):DT X (.Compare a [.In] [b] pos) (dB (dOp (G3 false) ta tb)):=aU (So hu) LK ha hb hm
theorem BQ(hu:X.A.units+64<cLine)(ha:DE X a ta)(hb:DE X b tb)(hm:behindInMarks .NotIn b=false:=by rfl):DT X (.Compare a [.NotIn] [b] pos) (dB (dOp (G3 true) ta tb)):=aU (K7 hu) LK ha hb hm
end
section
variable {X:Cx}{a b e o i value:Expr}{ta tb te to ti tv:DTE}{pos pos' p apos cpos:Pos}
noncomputable def Mr(to te:DTE):DTE:=fun ρ U Q=>to ρ U fun x ad=>∃a ks0,x = .b a/\ad.b a=some (.set ks0)/\te ρ ad fun y am=>∃k ks,rQ y=some k/\am.b a=some (.set ks)/\ks.length<=9800/\k ∉ ks/\Q (.v .none) (bP am a (.set (ks++[k])))
theorem Nw{ρ:Rho}{U:Mu}{Q:DK}:Mr to te ρ U Q=to ρ U fun x ad=>∃a ks0,x = .b a/\ad.b a=some (.set ks0)/\te ρ ad fun y am=>∃k ks,rQ y=some k/\am.b a=some (.set ks)/\ks.length<=9800/\k ∉ ks/\Q (.v .none) (bP am a (.set (ks++[k]))):=rfl
theorem PH(hu:X.A.units+64<cLine)(ho:DE X o to)(he:DE X e te)(m:M1 X o "add" apos e cpos:=by exact⟨rfl,rfl,rfl,rfl⟩):DE X (.Call (.Attribute o "add" apos) [e] [] cpos) (Mr to te):=by
 refine DE.mk fun pins s σ H ρ U Qd I S q=>?_
 refine wpAny_Call_method m.base m.few m.line PySem.F.plainAttrs_set PySem.F.slot_set_add PySem.F.type_set_add (thn (ho.use I S q) fun u s1 h1=>?_)
 obtain⟨x,ux,ad,H1,I1,rx,e1,S1,rd,a,ks0,ex,hb0,q1⟩:=h1
 subst ex
 obtain⟨rfl,_⟩:=rd
 cases rx
 obtain⟨ns,ob,hr,hb⟩:=S1.mu.box a _ hb0
 obtain⟨L,SA,_,_,_,_,_⟩:=HB I1 hr hb
 obtain⟨ob',ep,t,g1,g2,_⟩:=SA
 refine⟨⟨ob',g1,g2.1⟩,fun b z=>by cases z;exact⟨ob',g1,g2.2.1⟩,?_⟩
 rw[m.trees]
 refine Calls.callWith_builtin rfl (Calls.evalArgs_plain (Calls.spliced_cons (thn (he.use I1 S1 q1) fun iv s2 h2=>Calls.spliced_nil ?_)))
 obtain⟨y,uy,am,H2,I2,ry,e2,S2,rd2,k,ks,hk,hb2,few,hn,q2⟩:=h2
 obtain⟨qk,rfl,hq⟩:=pX rd2 hk
 cases ry
 obtain⟨_,ob2,hr2,hb3⟩:=S2.mu.box a _ hb2
 refine Pa hu I2 hr2 hb3 hq few hn fun o' s3 I3 hb4=>?_
 have ex:=xl (K:=X.K) (U:=am) (c:=.set (ks++[k])) (o':=o') hr2
 exact⟨.v .none,.non,_,_,I3,rfl,e1.trans (e2.trans ex),⟨S2.mu.Hu ns hr2 hb4,S2.rho.ext S2.mu ex⟩,Rp.none,q2⟩
noncomputable def J8(to ti:DTE):DTE:=fun ρ U Q=>to ρ U fun x ad=>ti ρ ad fun y am=>∃a kvs k d,x = .b a/\rQ y=some k/\am.b a=some (.dict kvs)/\cq kvs k=some d/\Q (.v d) am
theorem P0{ρ:Rho}{U:Mu}{Q:DK}:J8 to ti ρ U Q=to ρ U fun x ad=>ti ρ ad fun y am=>∃a kvs k d,x = .b a/\rQ y=some k/\am.b a=some (.dict kvs)/\cq kvs k=some d/\Q (.v d) am:=rfl
theorem C9(hu:X.A.units+64<cLine)(ho:DE X o to)(hi:DE X i ti)(hs:T8 i:=by exact fun _ _=>rfl):DE X (.Subscript o i pos) (J8 to ti):=by
 refine DE.mk fun pins s σ H ρ U Qd I S q=>?_
 refine Pd PySem.F.slot_dict_getitem.lookup hs (thn (ho.use I S q) fun u s1 h1=>?_)
 obtain⟨x,ux,ad,H1,I1,rx,e1,S1,rd,q1⟩:=h1
 refine thn (hi.use I1 S1 q1) fun iv s2 h2=>?_
 obtain⟨y,uy,am,H2,I2,ry,e2,S2,rd2,a,kvs,k,d,ex,hk,hb2,hl,q2⟩:=h2
 subst ex
 obtain⟨rfl,_⟩:=rd
 cases rx
 obtain⟨qk,rfl,hq⟩:=pX rd2 hk
 cases ry
 obtain⟨ns,ob,hr,hb⟩:=S2.mu.box a _ hb2
 obtain⟨xs,dp,dd,len⟩:=qg I2 hr hb
 rcases dp.look k with ⟨l1,_⟩|⟨d',q',v',w',l1,l2,l3,l4⟩
 ·rw[hl] at l1;cases l1
 ·rw[hl] at l1;cases l1
  refine⟨dd.typeIs,wpAny_getItem_heap (tupleKind_room_in1 ∅) (iw I2 hq) dd l2 ?_⟩
  exact⟨.v d,v',am,H2,I2.tok _,l4,e1.trans e2,S2,l3,q2⟩
noncomputable def JH(to ti tv:DTE):DTS:=fun D ρ U=>tv ρ U fun v ad=>to ρ ad fun x am=>ti ρ am fun y bi=>∃a kvs k d,v = .v d/\x = .b a/\rQ y=some k/\bi.b a=some (.dict kvs)/\kvs.length<=9800/\D.nx ρ (bP bi a (.dict (jg kvs k d)))
theorem Lp{D:BF}{ρ:Rho}{U:Mu}:JH to ti tv D ρ U=tv ρ U fun v ad=>to ρ ad fun x am=>ti ρ am fun y bi=>∃a kvs k d,v = .v d/\x = .b a/\rQ y=some k/\bi.b a=some (.dict kvs)/\kvs.length<=9800/\D.nx ρ (bP bi a (.dict (jg kvs k d))):=rfl
theorem Ph(hu:X.A.units+64<cLine)(ho:DE X o to)(hi:DE X i ti)(hv:DE X value tv)(hs:swapsWith value (some (.Subscript o i pos')) pos.line X.env=pure false:=by rfl):DS X (.Assign [.Subscript o i pos'] value pos) (JH to ti tv):=by
 refine⟨fun De σ H=>∃ρ U Dd,St0 X.K H ρ U σ/\JH to ti tv Dd ρ U/\∀bn ce Z H',Ext X.K U H Z H'->St0 X.K H' ce Z bn->Dd.nx ce Z->De.nx bn H',?_,fun σ H ρ U Dd De S h kn _ _ _=>⟨ρ,U,Dd,S,h,kn⟩⟩
 intro pins s σ H D I ⟨ρ,U,Dd,S,q,kn⟩
 refine wpAny_Assign_Subscript (thn (hv.use I S q) fun r s1 h1=>?_) hs
 obtain⟨v,uv,ad,H1,I1,rv,e1,S1,rd1,q1⟩:=h1
 refine thn (ho.use I1 S1 q1) fun u s2 h2=>?_
 obtain⟨x,ux,am,H2,I2,rx,e2,S2,rd2,q2⟩:=h2
 refine thn (hi.use I2 S2 q2) fun iv s3 h3=>?_
 obtain⟨y,uy,bi,H3,I3,ry,e3,S3,rd3,a,kvs,k,d,ev,ex,hk,hb3,few,q3⟩:=h3
 subst ex;subst ev
 obtain⟨rfl,_⟩:=rd2
 cases rx
 obtain⟨qk,rfl,hq⟩:=pX rd3 hk
 cases ry
 obtain⟨ns,ob,hr,hb⟩:=S3.mu.box a _ hb3
 obtain⟨xs,dp,dd,len⟩:=qg I3 hr hb
 have rd1':Rp X.K bi H3 d uv:=Rp.ext S1.mu (e2.trans e3) rd1
 refine wpAny_setItem_heap (hsz:=len) (tupleKind_room_in1 ∅) (iw I3 hq) dd fun h' dd' sb=>?_
 have hl:(jg kvs k d).length<=sizeLine:=by have:=xU kvs k d;rw[sizeLine_eq];omega
 obtain⟨o',g1,g2⟩:=Bw (X:=X) (U:=bi) (H:=H3) hl (dp.put hq rd1' rv) dd'
 have exx:=xl (K:=X.K) (U:=bi) (c:=.dict (jg kvs k d)) (o':=o') hr
 exact⟨σ,upd H3 a (.raw o'),Cq (ob:=.raw o') I3 (by rw[hr];exact True.intro) sb ⟨o',g1⟩ g1,kn σ ρ _ _ (e1.trans (e2.trans (e3.trans exx))) ⟨S3.mu.Hu ns hr g2,S3.rho.ext S3.mu exx⟩ q3⟩
noncomputable def Gx:Box->Nat
 |.set ks=>ks.length
 |.dict kvs=>kvs.length
theorem wU{prog:Program}{w:World}{K:Type}[DecidableEq K](knd:HeapKind prog w K)(d:Addr)(hd:(d==sysModules)=false) :
  MeetsIn prog w (Builtin.«dict.__len__» ⟨[.ref d],[]⟩) (fun _ R s=>∃kvs,s.heap.DictOfH knd d kvs/\R (.ok (.ret (.int kvs.length s.toks))) {s with toks:=s.toks+1}):=
 .of_wp fun A R s ⟨kvs,hm,h⟩=>by
  obtain⟨o,es,ep,ho,hc,hdat,hk,hp,hn⟩:=hm
  show wpAny _ _ (dictSize d>>=_) _ _ s
  unfold dictSize
  refine wpAny_bind (wpAny_bind (wpAny_dictEntries ho hdat (wpAny_pure ?_)))
  show wpAny _ _ (Builtin.Dict.pendingCount d>>=_) _ _ s
  refine wpAny_bind (wpAny_pendingCount_other hd ?_)
  refine wpAny_ret_mkInt ?_
  have:es.size=kvs.length:=size_of_entries hk
  rw[Nat.add_zero,this];exact h
theorem yo{prog:Program}{w:World}{K:Type}[DecidableEq K]{knd:HeapKind prog w K}{A:Around}{E:Value->Shared->Prop}{s:Shared}{d:Addr}{kvs:List (K×Addr×Value)}{Q:Value->Shared->Prop}(hd:(d==sysModules)=false)(hm:s.heap.DictOfH knd d kvs)(hfit:(kvs.length:Int)<2 ^ 63)
  (h:Q (.int kvs.length (s.toks+1)) {s with toks:=s.toks+1+1}):wpAny (model prog w) A (call (.builtin "len") [.ref d]) Q E s:=by
 refine Calls.call_function_entry kind_len plain_len entry_len (args_len1 _) ?_
 unfold Builtin.«len»
 refine wpAny_bind (m:=oneArg "len" _) (wpAny_pure ?_)
 refine wpAny_bind (m:=callSpecial? (.ref d) (Str.ofString "__len__")) (wpAny_callSpecial?_slot (name:=Str.ofString "__len__") hm.typeIs PySem.F.slot_dict_len
  (call_meetsIn PySem.F.slot_dict_len hm.typeIs PySem.F.entry_dict_len (PySem.F.args_dict_len_1 _) (wU knd d hd) ⟨kvs,hm,?_⟩))
 show wpAny _ _ _ _ _ {s with toks:=s.toks+1}
 refine wpAny_bind (wpAny_holding (wpAny_pure ?_))
 refine wpAny_bind (wpAny_letGo ?_)
 show wpAny _ _ (if ((kvs.length:Nat):Int)<0 then _ else _) _ _ _
 rw[if_neg ∅]
 show wpAny _ _ (if ((kvs.length:Nat):Int) ≥ 2 ^ 63 then _ else _) _ _ _
 rw[if_neg ∅]
 exact wpAny_bind (wpAny_mkInt (wpAny_pure ⟨_,rfl,h⟩))
noncomputable def Lv:List D->Mu->DK->Prop:=fun xs U Q=>∃a c,xs=[.b a]/\U.b a=some c/\LZ c/\Q (.v (.int (Gx c:Nat))) U
noncomputable def Tn(K:PySem.W.Frag)(r:List D->Mu->DK->Prop):List V->Hp->VK->Prop:=fun us H Q=>∃ds U Qd,bC K U H/\jO K U H ds us/\r ds U Qd/\∀d u Z H',Ext K U H Z H'->bC K Z H'->RpD K Z H' d u->Qd d Z->Q u H'
theorem Sq{K:PySem.W.Frag}{r:List D->Mu->DK->Prop}:nQ K (Tn K r) r:=fun xs us H U Qd Q ok rs h k=>⟨xs,U,Qd,ok,rs,h,k⟩
theorem KN:jc X (.builtin "len") (Tn X.K Lv):=by
 intro pins s σ H xs us Q I r h
 obtain⟨ds,U,Qd,ok,rs,⟨a,c,rfl,hc,few,q⟩,kk⟩:=h
 cases rs with
 |cons r1 r2=>
  cases r2
  obtain⟨rfl,_⟩:=r1
  obtain⟨u,rfl,rx⟩:=vals1 r
  cases rx
  obtain⟨ns,ob,hr,hb⟩:=ok.box a c hc
  have fin:∀(t:Tok) s',Inv X pins σ H s'->EP X pins σ Q (.int (Gx c:Nat) t) s':=fun t s' I'=>⟨.int (Gx c:Nat),H,I',⟨t,rfl⟩,kk (.v (.int (Gx c:Nat))) _ U H .refl ok (Rp.int _) q⟩
  cases c with
  |set ks=>
   obtain⟨h1,L,ep,t,h2,h3,h4,h5,_,_⟩:=hb
   have hs:(L.map (·.2)).toArray.size=ks.length:=by rw[size_toArray,length_map,h5]
   have few':ks.length<=9800:=few
   refine PySem.call_len_set (show s.heap.get? a=some ob from I.hok a _ hr) h1 h2 (ST.fits_of h3 ∅) (by rw[hs];exact Int.lt_of_le_of_lt (by exact_mod_cast few':(ks.length:Int)<=9800) ⋯) ?_
   rw[hs]
   exact fin _ _ (I.kept (h':=s.heap) (t':=s.toks+1+1) fun _ _ e=>e)
  |dict kvs=>
   obtain⟨xs,dp,dd,len⟩:=qg I hr hb
   have few':kvs.length<=9800:=few
   refine yo ns dd (by rw[<- dp.length];exact Int.lt_of_le_of_lt (by exact_mod_cast few':(kvs.length:Int)<=9800) ⋯) ?_
   rw[<- dp.length]
   exact fin _ _ (I.kept (h':=s.heap) (t':=s.toks+1+1) fun _ _ e=>e)
theorem Ox{es:List Expr}{t:DTA}(hg:Gl X "len")(hm:X.mg "len"=none)(ha:DA X (e::es) t)
  (he:starEach (e::es) X.env=(false,eval e X.env)::starEach es X.env:=by rfl) (hpl:(backTo pos (starEach es X.env)).any (·.1)=false:=by rfl):DE X (.Call (.Name "len" p) (e::es) [] pos) (dCB Lv t):=
 jx KN Sq hg hm PySem.boot_len ha ⋯ ⋯ he hpl
end
noncomputable def putAll{α:Type}(l:List (List Int×α)):List (List Int×α):=l.foldl (fun a x=>jg a x.1 x.2) []
theorem putAll_snoc{α:Type}(l:List (List Int×α))(k:List Int)(y:α):putAll (l++[(k,y)])=jg (putAll l) k y:=by unfold putAll;rw[List.foldl_append];rfl
theorem HF{α:Type}(l:List (List Int×α)):(putAll l).length<=l.length:=by
 have:∀(l a:List (List Int×α)),(l.foldl (fun a x=>jg a x.1 x.2) a).length<=a.length+l.length:=fun l=>by
  induction l with
  |nil=>intro a;exact Nat.le_refl _
  |cons x l ih=>
   intro a
   rw[List.foldl_cons,length_cons]
   have h1:=ih (jg a x.1 x.2)
   have h2:=xU a x.1 x.2
   omega
 have h:=this l []
 rw[length_nil,Nat.zero_add] at h
 exact h
theorem FY{β:Type}{xs:List PyData}{f:PyData->Option β}{i:Nat}{d:PyData}(h:xs[i]? = some d):(xs.take (i+1)).filterMap f=(xs.take i).filterMap f++(f d).toList:=by
 obtain⟨hi,e⟩:=List.getElem?_eq_some_iff.mp h
 rw[List.take_succ_eq_append_getElem hi,List.filterMap_append,e]
 cases q:f d<;>simp[q]
noncomputable def Ae(cap:List (Option Nat))(src:DTI)(g:DTG)(c:DTT)(tk tv:DTE):DTE:=fun ρ U Q=>src ρ U fun xs ad=>xs.length<=1000/\∃f:PyData->Option (List Int×PyData),
 (∀x∈xs,∀Z:Mu,(∀a ds,ad a=some ds->Z a=some ds)->g (.v x) (cN cap ρ) Z fun dL am=>Le (cN cap ρ) dL/\c dL am fun b bi=>
  if b=true then tk dL bi fun dk ge=>tv dL ge fun dv ii=>ii=Z/\∃k y,rQ dk=some k/\dv = .v y/\f x=some (k,y) else bi=Z/\f x=none)/\∀p,ad.b p=none->Q (.b p) (bP ad p (.dict (putAll (xs.filterMap f))))
theorem JR{cap:List (Option Nat)}{src:DTI}{g:DTG}{c:DTT}{tk tv:DTE}{ρ:Rho}{U:Mu}{Q:DK}:Ae cap src g c tk tv ρ U Q=src ρ U fun xs ad=>xs.length<=1000/\∃f:PyData->Option (List Int×PyData),
 (∀x∈xs,∀Z:Mu,(∀a ds,ad a=some ds->Z a=some ds)->g (.v x) (cN cap ρ) Z fun dL am=>Le (cN cap ρ) dL/\c dL am fun b bi=>
  if b=true then tk dL bi fun dk ge=>tv dL ge fun dv ii=>ii=Z/\∃k y,rQ dk=some k/\dv = .v y/\f x=some (k,y) else bi=Z/\f x=none)/\∀p,ad.b p=none->Q (.b p) (bP ad p (.dict (putAll (xs.filterMap f)))):=rfl
noncomputable abbrev two(elt tg iter tg2 iter2:Expr)(scope:Scope)(pos:Pos):Expr:=.ListComp elt [⟨tg,iter,[],0⟩,⟨tg2,iter2,[],0⟩] scope pos
theorem AG(elt tg iter tg2 iter2:Expr)(scope:Scope)(pos:Pos)(it acc:Value)(env:Env) :
  compTurn (two elt tg iter tg2 iter2 scope pos) 0 it acc env=(standAt iter.pos>>=fun _=>pyNext it>>=fun r=>match r with
   |none=>pure (.done .next)
   |some v=>letOwnedTupleGo tg it v>>=fun _=>assign tg env v>>=fun _=>
    (eval iter2 env>>=fun x=>standAt iter2.pos>>=fun _=>foldedSetIterable iter2 env x>>=fun x=>holding [x] (pyIter x)>>=fun it2=>runOwn (.compStart (two elt tg iter tg2 iter2 scope pos) 1 it2 acc env) env>>=fun _=>
     again (.compLoop (two elt tg iter tg2 iter2 scope pos) 0 it acc env))):=by rfl
theorem Am(elt tg iter tg2 iter2:Expr)(scope:Scope)(pos:Pos)(it acc:Value)(env:Env) :
  compTurn (two elt tg iter tg2 iter2 scope pos) 1 it acc env=(standAt iter2.pos>>=fun _=>pyNext it>>=fun r=>match r with
   |none=>pure (.done .next)
   |some v=>letOwnedTupleGo tg2 it v>>=fun _=>assign tg2 env v>>=fun _=>
    (eval elt env>>=fun x=>call (.builtin "list.append") [acc,x]>>=fun _=>pure ())>>=fun _=>
     again (.compLoop (two elt tg iter tg2 iter2 scope pos) 1 it acc env)):=by rfl
section
variable {prog:Program}{w:World}{A:Around}{R:Result->Shared->Prop}{s:Shared}{elt tg iter tg2 iter2:Expr}{scope:Scope}{pos:Pos}{it acc:Value}{env:Env}
theorem Cy(I:Nat->Shared->Prop)
  (turn:∀n s,I n s->wpAny (model prog w) A (pyNext it) (fun r dl=>match r with
   |none=>R (.ok .next) dl
   |some v=>wpAny (model prog w) A (letOwnedTupleGo tg2 it v) (fun _ s'=>wpAny (model prog w) A (assign tg2 env v) (fun _ bv=>
      wpAny (model prog w) A (eval elt env) (fun x ww=>
       wpAny (model prog w) A (call (.builtin "list.append") [acc,x]) (fun _ wf=>∃m,m<n/\I m wf) (fun _ _=>False) ww) (fun _ _=>False) bv) (fun _ _=>False) s') (fun _ _=>False) dl) (fun _ _=>False) s)
  (n:Nat) (h:I n s) :
  codeAny (model prog w) A (.compLoop (two elt tg iter tg2 iter2 scope pos) 1 it acc env) R s:=by
 refine codeAny_loop rfl I (fun n s hI=>?_) n h
 show wpAny _ A ((compTurn (two elt tg iter tg2 iter2 scope pos) 1 it acc env).onRaise (fun x=>do noteFrame x env;theTreesLotGoes x)) _ _ s
 refine wpAny_noted ?_
 rw[Am]
 refine wpAny_bind (wpAny_standAt (wpAny_bind (wpAny_mono (turn n s hI) (fun r dl kw=>?_) fun _ _ h'=>h'.elim)))
 cases r with
 |none=>exact wpAny_pure kw
 |some v=>
  refine wpAny_bind (wpAny_mono kw (fun _ s' h'=>?_) fun _ _ h'=>h'.elim)
  refine wpAny_bind (wpAny_mono h' (fun _ bv u8=>?_) fun _ _ h'=>h'.elim)
  exact wpAny_bind (wpAny_bind (wpAny_mono u8 (fun x ww wT=>wpAny_bind (wpAny_mono wT (fun _ wf xz=>wpAny_pure (wpAny_pure ⟨rfl,xz⟩)) fun _ _ h'=>h'.elim)) fun _ _ h'=>h'.elim))
theorem Aa
  (h0:codeAny (model prog w) A (.compLoop (two elt tg iter tg2 iter2 scope pos) 1 it acc env) R s)
  (h:wpAny (model prog w) A (pyIter it) (fun it' s'=>codeAny (model prog w) A (.compLoop (two elt tg iter tg2 iter2 scope pos) 1 it' acc env) R s')
   (notedBy (model prog w) A env fun x s'=>R (.error x) s') s) :
  codeAny (model prog w) A (.compStart (two elt tg iter tg2 iter2 scope pos) 1 it acc env) R s:=by
 refine codeAny_of_tree ?_
 show wpAny _ _ ((compStart (two elt tg iter tg2 iter2 scope pos) 1 it acc env).onRaise (fun x=>do noteFrame x env;standAt theWindowsPlace)) _ _ s
 refine wpAny_notedAt ?_
 unfold compStart
 show wpAny _ _ (ask>>=_) _ _ s
 refine wpAny_bind (wpAny_askSetting (wpAny_ite ?_))
 split
 ·first
   |exact wpAny_bind (wpAny_pure (wpAny_pure (And.intro rfl h0)))
   |exact wpAny_pure (And.intro rfl h0)
 ·first
   |exact wpAny_bind (wpAny_rule (wpAny_bind (wpAny_standAt (wpAny_bind (wpAny_mono h (fun it' s' h'=>wpAny_pure (And.intro rfl h')) fun _ _ x=>x)))))
   |(refine wpAny_bind (wpAny_rule ?_);show wpAny _ _ (standAt iter2.pos>>=_) _ _ s;exact wpAny_bind (wpAny_standAt (wpAny_bind (wpAny_mono h (fun it' s' h'=>wpAny_pure (And.intro rfl h')) fun _ _ x=>x))))
end
theorem zl{U:Mu}{p:Addr}{ds:List PyData}(h:U p=some ds):aR U p ds=U:=Mu.eq (fun b=>by
 by_cases e:b=p
 ·rw[e,aM,h]
 ·rw[aT e]) fun _=>rfl
theorem J2{X:Cx}{N':List Str}{cl:List (Str×Addr)}{fp0:List Addr}{bv:Shared}{db:Hp}{elt tg iter tg2 iter2:Expr}{scope:Scope}{pos:Pos}{src2:DTI}{g2:DTG}{te:DTE}
  (hi2:DI (aQ X N' scope cl fp0 bv db) tg2 iter2 src2) (hg2:DG (aQ X N' scope cl fp0 bv db) tg2 g2) (he:DE (aQ X N' scope cl fp0 bv db) elt te)
  {pins:List (Addr×Obj)} {s:Shared} {σ:St} {H:Hp} {ρ:Rho} {U:Mu} {p:Addr} {acc zs:List PyData} (I:Inv (aQ X N' scope cl fp0 bv db) pins σ H s) (S:St0 X.K H ρ U σ) (hp:U p=some acc) (hlen:acc.length+zs.length<=1000)
  (q:src2 ρ U fun ys bi=>bi=U/\∃h:PyData->PyData,zs=ys.map h/\∀y∈ys,∀gV:Mu,(∀a ds,a≠p->U a=some ds->gV a=some ds)->g2 (.v y) ρ gV fun ln ge=>Le ρ ln/\te ln ge fun d ii=>ii=gV/\d = .v (h y)) :
  wpAny (model X.prog X.w) X.A (eval iter2 (aQ X N' scope cl fp0 bv db).env) (fun x s1=>wpAny (model X.prog X.w) X.A (pyIter x) (fun it2 s2=>
   codeAny (model X.prog X.w) X.A (.compStart (two elt tg iter tg2 iter2 scope pos) 1 it2 (.ref p) (aQ X N' scope cl fp0 bv db).env) (fun r s3=>∃f,r = .ok f/\∃lf H3,Inv (aQ X N' scope cl fp0 bv db) pins lf H3 s3/\St0 X.K H3 ρ (aR U p (acc++zs)) lf/\Ext X.K U H (aR U p (acc++zs)) H3) s2) (fun _ _=>False) s1) (fun _ _=>False) s:=by
 obtain⟨wi,pw,li⟩:=hi2
 refine thn (pw pins s σ H _ I (li σ H ρ U _ (fun J H1=>∃ys bi,Ext X.K U H bi H1/\St0 X.K H1 ρ bi σ/\Og X.K J ys bi H1/\bi=U/\∃h:PyData->PyData,zs=ys.map h/\∀y∈ys,∀gV:Mu,(∀a ds,a≠p->U a=some ds->gV a=some ds)->g2 (.v y) ρ gV fun ln ge=>Le ρ ln/\te ln ge fun d ii=>ii=gV/\d = .v (h y)) S q
  (fun ys bi H1 J e1 S1 it q=>⟨ys,bi,e1,S1,it,q⟩))) fun v s1 h1=>thn h1 fun itv s2 h2=>?_
 obtain⟨it,fp,tn,J,H2,rfl,I2,T,st2,f2,ys,bi,e1,S1,itok,rfl,h,rfl,body⟩:=h2
 have loop:codeAny (model X.prog X.w) X.A (.compLoop (two elt tg iter tg2 iter2 scope pos) 1 (.ref it) (.ref p) (aQ X N' scope cl fp0 bv db).env) (fun r s3=>∃f,r = .ok f/\∃lf H3,Inv (aQ X N' scope cl fp0 bv db) pins lf H3 s3/\St0 X.K H3 ρ (aR bi p (acc++ys.map h)) lf/\Ext X.K bi H (aR bi p (acc++ys.map h)) H3) s2:=by
  refine Cy (fun n s'=>∃(j:Nat) (io:St) (Hc:Hp),n=ys.length-j/\j<=ys.length/\Inv (aQ X N' scope cl fp0 bv db) pins io Hc s'/\tn j s'.heap/\(∀b∈fp,Hc b=none) /\
   St0 X.K Hc ρ (aR bi p (acc++(ys.take j).map h)) io/\Ext X.K bi H2 (aR bi p (acc++(ys.take j).map h)) Hc) ?_ ys.length
   ⟨0,σ,H2,by simp,zero_le _,I2,st2,fun b hb=>(f2 b hb).1,?_,?_⟩
  ·rintro n s' ⟨i,io,Hc,rfl,hi,Ic,tc,frc,Sc,Ec⟩
   have stat:∀{Hd:Hp},(∀b∈fp,Hd b=none)->∀b∈fp,xG (aQ X N' scope cl fp0 bv db) pins Hd b:=fun hn b hb=>⟨hn b hb,(f2 b hb).2⟩
   obtain⟨go,stop⟩:=itok _ Hc Ec Sc.mu i
   by_cases hlt:i<ys.length
   ·obtain⟨g1,y1⟩:=go hlt
    refine thn (T.item (aQ X N' scope cl fp0 bv db) rfl rfl rfl (fun z=>z) i pins s' io Hc (fun _ _=>False) Ic (stat frc) tc g1) fun r s4 hq0=>?_
    obtain⟨u,hr,h4⟩:=hq0
    subst hr
    refine thn h4 fun _ s5 hq0=>?_
    obtain⟨x,H5,I5,r5,y5,st5,fr5⟩:=hq0
    obtain⟨d,hd,sm,rd⟩:=y1 x H5 y5
    have I5':=I5.pinned (stat fr5) (T.obj _ _ st5)
    have e5:Ext X.K _ Hc _ H5:=.of_same (U:=aR bi p (acc++(ys.take i).map h)) sm
    have S5:St0 X.K H5 ρ (aR bi p (acc++(ys.take i).map h)) io:=⟨Sc.mu.N7 e5 sm,Sc.rho.ext Sc.mu e5⟩
    obtain⟨gt,pg,lg⟩:=hg2
    have hmem:d∈ys:=mem_of_getElem? hd
    have sub:∀a ds,a≠p->bi a=some ds->aR bi p (acc++(ys.take i).map h) a=some ds:=fun a ds ne e=>by rw[aT ne];exact e
    refine thn (pg _ s5 io H5 x u (fun bn H'=>∃ce Z,Ext X.K (aR bi p (acc++(ys.take i).map h)) H5 Z H'/\St0 X.K H' ce Z bn/\Le ρ ce/\te ce Z fun d' ii=>ii=aR bi p (acc++(ys.take i).map h)/\d' = .v (h d)) I5' r5
     (lg io H5 ρ _ (.v d) x _ _ S5 rd (body d hmem _ sub) fun bn ce Z H' e' S' q=>⟨ce,Z,e',S',q⟩)) fun _ s6 ⟨tt,H6,I6,At,xL,e6,S6,le6,q6⟩=>?_
    refine thn (he.use I6 S6 q6) fun v s8 hq0=>?_
    obtain⟨d',v8,v4,H8,I8,r8,e8,S8,ry,AC,ed⟩:=hq0
    subst AC;subst ed
    obtain⟨us,hacc,rus⟩:=S8.mu.lst p _ aM
    have hle:(acc++(ys.take i).map h).length<1000:=by
     rw[length_append,length_map,length_take]
     rw[length_map] at hlen
     omega
    refine thn (uZ (X:=aQ X N' scope cl fp0 bv db) _ s8 tt H8 (.ref p) [v8] (.ref p) [v] (fun _ H'=>H'=upd H8 p (.lst (us++[v8]))) I8 rfl (.cons r8 .nil) ⟨_,us,v8,rfl,rfl,hacc,by rw[<- rus.length];exact iu (Nat.le_of_lt hle),rfl⟩) fun _ s9 hq0=>?_
    obtain⟨_,H9,I9,_,e9⟩:=hq0
    subst e9
    have et:acc++(ys.take (i+1)).map h=acc++(ys.take i).map h++[h d]:=by
     obtain⟨hi',e⟩:=List.getElem?_eq_some_iff.mp hd
     rw[List.take_succ_eq_append_getElem hi',map_append,e,append_assoc]
     rfl
    have ex:Ext X.K (aR bi p (acc++(ys.take i).map h)) H8 (aR (aR bi p (acc++(ys.take i).map h)) p (acc++(ys.take i).map h++[h d])) (upd H8 p (.lst (us++[v8]))):=kd aM
    have m9:=S8.mu.set aM (rus.append (.cons ry .nil))
    rw[ic,<- et] at ex m9
    have Ef:=Ec.trans (e5.trans (e6.trans (e8.trans ex)))
    refine⟨ys.length-(i+1),∅,i+1,tt,_,rfl,hlt,I9.mC,T.keep _ _ _ st5 fun b hb o e=>(I9.pin (b,o) (mem_append_right _ (mem_append_right _ (fe hb e)))).1,fun b hb=>?_,⟨m9,(S8.rho.ext S8.mu ex).le le6⟩,Ef⟩
    obtain⟨o,e,_⟩:=T.obj _ _ st5 b hb
    exact (I9.pin (b,o) (mem_append_right _ (mem_append_right _ (fe hb e)))).2.1
   ·have ei:i=ys.length:=by omega
    subst ei
    refine thn (T.done (aQ X N' scope cl fp0 bv db) rfl rfl rfl (fun z=>z) _ pins s' io Hc (fun _ _=>False) Ic (stat frc) tc (stop rfl)) fun r s4 hq0=>?_
    obtain⟨hr,I5⟩:=hq0
    subst hr
    rw[take_length] at Sc Ec
    exact⟨_,rfl,io,Hc,I5,Sc,e1.trans Ec⟩
  ·rw[take_zero,map_nil,append_nil,zl hp]
   exact S1
  ·rw[take_zero,map_nil,append_nil,zl hp]
   exact .refl
 exact Aa loop (T.self X.A 0 _ _ _ st2 loop)
noncomputable def yY(cap:List (Option Nat))(src:DTI)(g:DTG)(src2:DTI)(g2:DTG)(te:DTE):DTE:=fun ρ U Q=>src ρ U fun xs ad=>xs.length<=1000/\∃f:PyData->List PyData,(xs.flatMap f).length<=1000 /\
   (∀x∈xs,∀Z:Mu,(∀a ds,ad a=some ds->Z a=some ds)->g (.v x) (cN cap ρ) Z fun dL am=>Le (cN cap ρ) dL/\am=Z/\src2 dL Z fun ys bi=>bi=Z/\∃h:PyData->PyData,f x=ys.map h/\∀y∈ys,∀gV:Mu,(∀a ds,ad a=some ds->gV a=some ds) ->
    g2 (.v y) dL gV fun ln ge=>Le dL ln/\te ln ge fun d ii=>ii=gV/\d = .v (h y))/\Q (.v (.list (xs.flatMap f))) ad
theorem IX{cap:List (Option Nat)}{src:DTI}{g:DTG}{src2:DTI}{g2:DTG}{te:DTE}{ρ:Rho}{U:Mu}{Q:DK}:yY cap src g src2 g2 te ρ U Q=src ρ U fun xs ad=>xs.length<=1000/\∃f:PyData->List PyData,(xs.flatMap f).length<=1000 /\
   (∀x∈xs,∀Z:Mu,(∀a ds,ad a=some ds->Z a=some ds)->g (.v x) (cN cap ρ) Z fun dL am=>Le (cN cap ρ) dL/\am=Z/\src2 dL Z fun ys bi=>bi=Z/\∃h:PyData->PyData,f x=ys.map h/\∀y∈ys,∀gV:Mu,(∀a ds,ad a=some ds->gV a=some ds) ->
    g2 (.v y) dL gV fun ln ge=>Le dL ln/\te ln ge fun d ii=>ii=gV/\d = .v (h y))/\Q (.v (.list (xs.flatMap f))) ad:=rfl
theorem ln1{p:List Value->Prop}(h:∀a0,p [a0])(us:List Value)(hl:us.length=1):p us:=match us,hl with|[a0],_=>h a0
theorem ln2{p:List Value->Prop}(h:∀a0 a1,p [a0,a1])(us:List Value)(hl:us.length=2):p us:=match us,hl with|[a0,a1],_=>h a0 a1
theorem ln3{p:List Value->Prop}(h:∀a0 a1 a2,p [a0,a1,a2])(us:List Value)(hl:us.length=3):p us:=match us,hl with|[a0,a1,a2],_=>h a0 a1 a2
theorem ln4{p:List Value->Prop}(h:∀a0 a1 a2 a3,p [a0,a1,a2,a3])(us:List Value)(hl:us.length=4):p us:=match us,hl with|[a0,a1,a2,a3],_=>h a0 a1 a2 a3
theorem ln5{p:List Value->Prop}(h:∀a0 a1 a2 a3 a4,p [a0,a1,a2,a3,a4])(us:List Value)(hl:us.length=5):p us:=match us,hl with|[a0,a1,a2,a3,a4],_=>h a0 a1 a2 a3 a4
noncomputable def upE(te:DTE):DTE:=fun ρ U Q=>∃Q',te ρ U Q'/\∀d Z,Q' d Z->Q d Z
noncomputable def upG(g:DTG):DTG:=fun d ρ U Q=>∃Q',g d ρ U Q'/\∀ce Z,Q' ce Z->Q ce Z
noncomputable def upT(c:DTT):DTT:=fun ρ U Q=>∃Q',c ρ U Q'/\∀b Z,Q' b Z->Q b Z
noncomputable def upI(c:DTI):DTI:=fun ρ U Q=>∃Q',c ρ U Q'/\∀b Z,Q' b Z->Q b Z
theorem IA{X:Cx}{e:Expr}{te:DTE}(h:DE X e te):DE X e (upE te):=
 let ⟨t,p,l⟩:=h
 ⟨t,p,fun σ H ρ U _ Q S ⟨Q',h,z⟩ k=>l σ H ρ U Q' Q S h fun d u Z H' a b c q=>k d u Z H' a b c (z _ _ q)⟩
theorem JA{X:Cx}{e:Expr}{g:DTG}(h:DG X e g):DG X e (upG g):=
 let ⟨t,p,l⟩:=h
 ⟨t,p,fun σ H ρ U d u _ Q S r ⟨Q',h,z⟩ k=>l σ H ρ U d u Q' Q S r h fun bn ce Z H' a b q=>k bn ce Z H' a b (z _ _ q)⟩
theorem CM{X:Cx}{es:List Expr}{c:DTT}(h:Ao X es c):Ao X es (upT c):=
 fun pins s σ H ρ U _ Q I S ⟨Q',h',z⟩ k=>h pins s σ H ρ U Q' Q I S h' fun b Z H' x y q=>k b Z H' x y (z _ _ q)
theorem GP{X:Cx}{tg e:Expr}{c:DTI}(h:DI X tg e c):DI X tg e (upI c):=
 let ⟨t,p,l⟩:=h
 ⟨t,p,fun σ H ρ U _ R S ⟨Q',h,z⟩ k=>l σ H ρ U Q' R S h fun xs ad H1 J a b c q=>k xs ad H1 J a b c (z _ _ q)⟩
theorem SN{X:Cx}{e:Expr}{te te':DTE}(h:DE X e te)(w:∀ρ U Q,te' ρ U Q->te ρ U Q):DE X e te':=
 let ⟨t,p,l⟩:=h
 ⟨t,p,fun σ H ρ U Qd Q S h k=>l σ H ρ U Qd Q S (w _ _ _ h) k⟩
theorem ON{U:Mu}{p:Addr}{l:List PyData}(h:U p=none):lK (aR U p l) p=U:=Mu.eq (fun b=>by
 by_cases e:b=p
 ·rw[e,ia,h]
 ·rw[gF e,aT e]) fun _=>rfl
theorem Kq{cap:List (Option Nat)}{src:DTI}{g:DTG}{c:DTT}{te:DTE}{ρ:Rho}{U:Mu}{Q:DK}(h:pA cap src g c te ρ U Q):ie cap (upI src) (upG g) (upT c) (upE te) ρ U Q:=by
 refine⟨_,h,fun xs ad ⟨hl,f,body,q⟩=>⟨hl,fun p hp=>⟨fun i acc Z=>acc=(xs.take i).filterMap f/\Z=aR ad p acc,⟨rfl,rfl⟩,fun i x acc Z hx _ P=>?_,fun acc Z P _=>?_⟩⟩⟩
 ·obtain⟨e,rfl⟩:=P
  have tk:∀o,f x=o->(xs.take (i+1)).filterMap f=acc++o.toList:=fun o z=>by
   rw[List.take_add_one,hx,List.filterMap_append,e]
   show _++List.filterMap f [x]=_
   rw[filterMap_cons,z]
   cases o<;>rfl
  refine⟨_,body x (mem_of_getElem? hx) _ (fun a ds z=>by rw[aT (fun w=>by rw[w,hp] at z;cases z),z]),fun dL am ⟨l,cc⟩=>⟨l,_,cc,fun b bi r=>?_⟩⟩
  cases b with
  |true=>
   rw[if_pos rfl] at r ⊢
   refine⟨_,r,fun d ge hq0=>?_⟩
   obtain⟨e4,m⟩:=hq0
   subst e4
   refine⟨aM,?_⟩
   split at m
   ·exact⟨(tk _ m).symm,ic⟩
   ·exact m.elim
  |false=>
   rw[if_neg ⋯] at r ⊢
   obtain⟨rfl,z⟩:=r
   exact⟨aM,by rw[tk _ z];exact (append_nil _).symm,rfl⟩
 ·obtain⟨rfl,rfl⟩:=P
  rw[take_length,ON hp]
  exact q
structure Cal(K:PySem.W.Frag)(mg:Str->Option Value)(n:Str)(ps:List Str)(st:Stmt)(a:Addr)(d:FuncData):Prop where
 f:Fun K n n st a d
 m:mg n=some (.ref a)
 k:keepIn K (.ref a)=true
 b:Binds K d ps []
theorem ak{X:Cx}{k j:Nat}{f:Addr}{fd:FuncData}{x:Str}{p pos:Pos}{e:Expr}{es:List Expr}{ps:List Str}{st:Stmt}{dsp:DSp}{t:DTA}(F:iY X.prog X.w X.K X.mg X.base CX0 k f fd ps (spD X.K dsp))(hr:fJ j X.A)(C:Cal X.K X.mg x ps st f fd)
  (ha:DA X (e::es) t) (h:k<=j:=by decide) (hg:Gl X x:=by rfl) (hdb:(x==("__debug__":Str))=false:=by decide) (he:starEach (e::es) X.env=(false,eval e X.env)::starEach es X.env:=by rfl) (hpl:(backTo pos (starEach es X.env)).any (·.1)=false:=by rfl) :
  DE X (.Call (.Name x p) (e::es) [] pos) (ax dsp t):=NY F (hr.mono h) hg C.m C.k C.b ha hdb he hpl
theorem aY{X:Cx}{pos:Pos}{i:Nat}{x:Str}(hN:X.N.Nodup)(hi:X.N[i]? = some x:=by rfl)(hx:Loc X.env.scope x:=by exact Or.inl rfl)(hf:X.fn x=true\/X.env.scope.names.lookup x=some .local:=by first|exact .inl rfl|exact .inr rfl|assumption):DG X (.Name x pos) (aq i):=jk hN hi hx hf
theorem bR{X:Cx}{N':List Str}{scope:Scope}{cl:List (Str×Addr)}{fp:List Addr}{s:Shared}{H:Hp}{pos:Pos}(i:Nat){x:Str}(hN:N'.Nodup:=by decide +kernel)(hi:N'[i]? = some x:=by rfl)(hx:Loc (aQ X N' scope cl fp s H).env.scope x:=by exact Or.inl rfl)(hf:(aQ X N' scope cl fp s H).fn x=true\/(aQ X N' scope cl fp s H).env.scope.names.lookup x=some .local:=by first|exact .inl rfl|exact .inr rfl|assumption):DG (aQ X N' scope cl fp s H) (.Name x pos) (aq i):=jk hN hi hx hf
theorem bg{X:Cx}{e:Expr}{te:DTE}{pos:Pos}{i:Nat}{x:Str}{pos':Pos}(hN:X.N.Nodup)(he:DE X e te)(hi:X.N[i]? = some x:=by rfl)(hx:Loc X.env.scope x:=by exact Or.inl rfl)(hs:swapsWith e (some (.Name x pos')) pos.line X.env=pure false:=by rfl)(hf:X.fn x=true\/X.env.scope.names.lookup x=some .local:=by first|exact .inl rfl|exact .inr rfl|assumption) :
  DS X (.Assign [.Name x pos'] e pos) (bc te (aq i)):=D2 hN hi hx he hs hf
theorem bL{N P:List Str}{sc:Scope}(h1:sc.kind = .function:=by rfl)(h2:sc.isCoroutine=false:=by rfl)(h3:sc.isGenerator=false:=by rfl)(h4:N.Nodup:=by decide +kernel)(h5:N.take P.length=P:=by rfl)
  (h6:∀x∈P,sc.names.lookup x=some .local\/sc.names.lookup x=some .cell:=by decide +kernel) (h7:∀y∈sc.names,y.2≠.free:=by decide +kernel):aE N P sc:=⟨h1,h2,h3,h4,h5,h6,h7⟩
structure CH(X:Cx)(N':List Str)(scope:Scope)(cl:List (Str×Addr))(cap:List (Option Nat)):Prop where
 cell:∀y∈scope.names,y.2≠.cell
 kind:scope.kind = .function
 nms:∀y∈scope.names,y.2 = .local->scope.names.lookup y.1=some .local
 sub:∀x a,cl.lookup x=some a->X.env.cells.lookup x=some a
 has:∀x,(relabel scope X.env).names.lookup x=some .cell\/(relabel scope X.env).names.lookup x=some .free->∃a,cl.lookup x=some a
 len:cap.length=N'.length
 cap:∀(i j:Nat) (x:Str),cap[i]? = some (some j)->N'[i]? = some x->X.N[j]? = some x/\Vis X.env.scope x/\X.env.kindOf x≠some .local/\((relabel scope X.env).names.lookup x=some .cell\/(relabel scope X.env).names.lookup x=some .free)
noncomputable def Core(X:Cx)(E:Expr)(scope:Scope)(mk:Sem Value)(iter:Expr)(te:DTE):Prop:=∀(pos:Pos) (use:Option (Value->Sem Unit)) (QQ:Value->Shared->Prop) (pins:List (Addr×Obj)) (s:Shared) (σ:St) (H:Hp) (ρ:Rho) (U:Mu) (Qd:DK),Inv X pins σ H s->St0 X.K H ρ U σ->te ρ U Qd ->
 (∀(s4:Shared) (Hc:Hp) (C pa:Addr) (m:Str->Option Value) (d:D) (ls:Mu),s4.heap.Ns C m->xG X pins Hc C->(∀h',Heap.SameBut C s4.heap h'->Inv X pins σ Hc {s4 with heap:=h'}) ->
  Ext X.K U H ls Hc->St0 X.K Hc ρ ls σ->RpD X.K ls Hc d (.ref pa)->Qd d ls->compPost (model X.prog X.w) X.A X.xe use QQ (.ref pa) C (.ok .next) s4) ->
 wpAny (model X.prog X.w) X.A (comprehension E scope X.env pos mk false (eval iter X.env) use) QQ X.xe s
theorem Jo{X:Cx}{E iter:Expr}{scope:Scope}{mk:Sem Value}{te:DTE}{pos:Pos}(h:Core X E scope mk iter te)(e:eval E X.env=comprehension E scope X.env pos mk false (eval iter X.env)):DE X E te:=
 Qc fun pins s σ H ρ U Qd Q I S q k=>by
  rw[e]
  exact h _ _ _ _ _ _ _ _ _ _ I S q fun s4 Hc C pa m d ls hn _ hI e1 S1 r q=>⟨m,hn,fun h' hs'=>⟨.ref pa,Hc,hI h' hs',rfl,k d _ ls Hc e1 S1 r q⟩⟩
theorem IM{X:Cx}{i:Nat}{x:Str}{pos' spos pos:Pos}{E iter:Expr}{scope:Scope}{mk:Sem Value}{te:DTE}(h:Core X E scope mk iter te)(hN:X.N.Nodup)(hix:X.N[i]? = some x)(hx:X.env.scope.names.lookup x=some .local)
  (hsw:swapsWith E (some (.Name x pos')) spos.line X.env=pure true) (e:evalThenUse E X.env (assign (.Name x pos') X.env)=comprehension E scope X.env pos mk false (eval iter X.env) (some (assign (.Name x pos') X.env))>>=fun _=>pure ()):DS X (.Assign [.Name x pos'] E spos) (bc te (aq i)):=by
 refine⟨fun D σ H=>∃ρ U Dd,St0 X.K H ρ U σ/\bc te (aq i) Dd ρ U/\(∀bn ce Z H',Ext X.K U H Z H'->St0 X.K H' ce Z bn->Dd.nx ce Z->D.nx bn H'),?_,fun σ H ρ U Dd De S h k1 k2 k3 k4=>⟨ρ,U,Dd,S,h,k1⟩⟩
 intro pins s σ H D I hq
 obtain⟨ρ,U,Dd,S,q,k1⟩:=hq
 rw[exec_Assign_Name_used _ _ _ _ hsw,e]
 refine wpAny_bind (wpAny_standAt (wpAny_bind (wpAny_bind (h _ _ _ pins s σ H ρ U (fun d ad=>aq i d ρ ad Dd.nx) I S q fun s4 Hc C pa m d ls hn fC hI e1 S1 r q=>?_))))
 obtain⟨oC,hoC,hdC⟩:=ns_obj hn
 have I5:=(hI s4.heap (Heap.SameBut.refl _ _)).pinned (fp:=[C]) (fun b hb=>by rw[List.mem_singleton.mp hb];exact fC) (fun b hb=>by rw[List.mem_singleton.mp hb];exact⟨oC,hoC,hdC⟩)
 show wpAny _ _ (assign (.Name x pos') X.env (.ref pa)) _ _ s4
 refine wpAny_assign_Name (lW I5 hN hix (Or.inl hx) (show RelV (.ref pa) (.ref pa) from rfl) (fun s' I'=>?_) (.inr hx))
 have keepC:s'.heap.get? C=some oC:=(I'.pin (C,oC) (mem_append_right _ (mem_append_right _ (fe (List.mem_singleton.mpr rfl) hoC)))).1
 refine⟨m,PD hn (by rw[keepC,hoC]),fun h' hs'=>wpAny_pure (wpAny_pure ⟨σ.set i (some (.ref pa)),Hc,?_,k1 _ _ _ _ e1 ⟨S1.mu,S1.rho.set r⟩ q⟩)⟩
 refine I'.mC.II (ch:=[C]) rfl ⟨fun b o e n hb hx=>?_,fun b o e n hb hx=>?_,fun b o e n hx=>n,fun b o e hx=>?_,fun b xs e=>e,fun b o u e=>e,fun b ps e=>⟨#[],by rw[Array.append_empty];exact e⟩⟩ ?_ I'.bare fun b hb=>?_
 ·exact hs'.extBut b o (fun z=>hx (List.mem_singleton.mpr z)) e
 ·exact⟨o.slots,hs'.extBut b o (fun z=>hx (List.mem_singleton.mpr z)) e⟩
 ·exact⟨o,hs'.extBut b o (fun z=>hx (List.mem_singleton.mpr z)) e⟩
 ·exact fun b ob e=>by
   refine (I'.hok b ob e).xa (fun cc v hcc q=>hs'.extBut cc v ?_ q) (fun _ q=>q) fun _ _ q=>q
   rintro rfl
   rcases hcc with z|z
   ·rw[<- z,fC.1] at e;cases e
   ·rw[fC.1] at z;cases z
 ·rw[List.mem_singleton.mp hb]
  exact⟨fC.2.2.2.1,fC.2.1,fC.2.2.2.2.1,fC.2.2.2.2.2⟩
theorem HX{X:Cx}{N':List Str}{scope:Scope}{cl:List (Str×Addr)}{cap:List (Option Nat)}{E tg:Expr}{gc:Comprehension}{gs:List Comprehension}{src:DTI}{g:DTG}{te:DTE}
  {T0:String} {dt:Data} {oH:HO} {mk0:Mu->Addr->Mu} {rest:Value->Addr->Env->Sem PySem.Fin} {Kb:Addr->PyData->Rho->Mu->(Mu->Prop)->Prop} {fin:DK->Mu->Addr->Mu->Prop}
  (hclos:closureFor scope X.env=pure cl) (hC:CH X N' scope cl cap) (hi:DI X tg gc.iter src) (hg:∀fp bv db,DG (aQ X N' scope cl fp bv db) tg g)
  (hE:clausesOf E=gc::gs) (hs:∀x,foldedSetIterable gc.iter X.env x=pure x)
  (hst:∀{R:Result->Shared->Prop} {s:Shared} {it acc:Value} {env:Env},codeAny (model X.prog X.w) X.A (.compLoop E 0 it acc env) R s->wpAny (model X.prog X.w) X.A (pyIter it) (fun it' s'=>codeAny (model X.prog X.w) X.A (.compLoop E 0 it' acc env) R s') (notedBy (model X.prog X.w) X.A env fun x s'=>R (.error x) s') s->codeAny (model X.prog X.w) X.A (.compStart E 0 it acc env) R s)
  (hT:∀(it:Value) (D:Addr) (env:Env),compTurn E 0 it (.ref D) env=(standAt gc.iter.pos>>=fun _=>pyNext it>>=fun r=>match r with
   |none=>pure (.done .next)
   |some v=>letOwnedTupleGo tg it v>>=fun _=>assign tg env v>>=fun _=>rest it D env))
  (hU:∀{it:Value} {D:Addr} {env:Env} {Q:PySem.Fin->Shared->Prop} {Er:Value->Shared->Prop} {s:Shared},wpAny (model X.prog X.w) X.A ((compTurn E 0 it (.ref D) env).onRaise fun x=>do noteFrame x env;theTreesLotGoes x) Q Er s->wpAny (model X.prog X.w) (X.A.under (.compLoop E 0 it (.ref D) env)) ((model X.prog X.w).den (.compLoop E 0 it (.ref D) env)) Q Er s)
  (hsz:sizeOk dt) (hob:∀(H:Hp) (h:Heap),iM X.prog X.w (upd H h.objs.size oH) (h.push {cls:=.type T0,dict:=none,data:=dt}) h.objs.size oH)
  (hm0:∀{ad:Mu} {H2:Hp} {p:Addr},bC X.K ad H2->H2 p=none->X.K.lookup p=none->(p==sysModules)=false->bC X.K (mk0 ad p) (upd H2 p oH)/\Ext X.K ad H2 (mk0 ad p) (upd H2 p oH))
  (hbd:∀{fp:List Addr} {s3:Shared} {H3:Hp} {pins:List (Addr×Obj)} {s:Shared} {σ:St} {H:Hp} {ρ:Rho} {U:Mu} {p:Addr} {d:PyData} {it:Value} {Qm:Mu->Prop} {Q:Shared->Prop},Inv (aQ X N' scope cl fp s3 H3) pins σ H s->St0 X.K H ρ U σ->Kb p d ρ U Qm ->
   (∀s' bn H' Z,Inv (aQ X N' scope cl fp s3 H3) pins bn H' s'->St0 X.K H' ρ Z bn->Ext X.K U H Z H'->Qm Z->Q s') ->
   wpAny (model X.prog X.w) X.A (rest it p (aQ X N' scope cl fp s3 H3).env) (fun r s'=>r = .again (.compLoop E 0 it (.ref p) (aQ X N' scope cl fp s3 H3).env)/\Q s') (fun _ _=>False) s)
  (hte:∀ρ U Qd,te ρ U Qd->src ρ U fun xs ad=>∀p,ad p=none->ad.b p=none->∃P:Nat->Mu->Prop,P 0 (mk0 ad p)/\(∀i x Z,xs[i]? = some x->P i Z->g (.v x) (cN cap ρ) Z fun dL am=>Le (cN cap ρ) dL/\Kb p x dL am (P (i+1)))/\∀Z,P xs.length Z->fin Qd ad p Z)
  (hend:∀{Qd:DK} {σ:St} {ρ:Rho} {p:Addr} {U ad im:Mu} {H H1 Hc:Hp},ad p=none->ad.b p=none->Ext X.K U H ad H1->St0 X.K H1 ρ ad σ->Ext X.K ad H1 im Hc->bC X.K im Hc->fin Qd ad p im->∃d ls,Ext X.K U H ls Hc/\St0 X.K Hc ρ ls σ/\RpD X.K ls Hc d (.ref p)/\Qd d ls) :
  Core X E scope (newObj (.type T0) dt) gc.iter te:=by
 intro pos use QQ pins s σ H ρ U Qd I S h hd0
 obtain⟨wi,pw,li⟩:=hi
 refine wpAny_comprehension_free hE hs hclos hC.kind hC.nms (thn (pw pins s σ H _ I (li σ H ρ U _ (fun J H1=>∃xs ad,Ext X.K U H ad H1/\St0 X.K H1 ρ ad σ/\Og X.K J xs ad H1/\∀p,ad p=none->ad.b p=none->∃P:Nat->Mu->Prop,P 0 (mk0 ad p)/\(∀i x Z,xs[i]? = some x->P i Z->g (.v x) (cN cap ρ) Z fun dL am=>Le (cN cap ρ) dL/\Kb p x dL am (P (i+1)))/\∀Z,P xs.length Z->fin Qd ad p Z) S (hte _ _ _ h) (fun xs ad H1 J e1 S1 it q=>⟨xs,ad,e1,S1,it,q⟩)))
  fun v s1 h1=>thn h1 fun itv s2 h2=>?_)
 obtain⟨it,fp,tn,J,H2,rfl,I2,T,st2,f2,xs,ad,e1,S1,itok,allp⟩:=h2
 refine wpAny_newObj_type (wpAny_newFunctionEnv hC.cell (by intro y hy;simp at hy) (fun kw tj sK=>?_) hC.kind) hsz
 dsimp only at tj sK ⊢
 have hfree2:H2 s2.heap.objs.size=none:=I2.hok.fresh (Nat.le_refl _)
 have hK2:X.K.lookup s2.heap.objs.size=none:=by
  cases z:X.K.lookup s2.heap.objs.size with
  |none=>rfl
  |some o=>exact absurd (Heap.lt_size (I2.kIn _ _ z)) (lt_irrefl _)
 have I3:Inv X pins σ (upd H2 s2.heap.objs.size oH) {s2 with heap:=s2.heap.push {cls:=.type T0,dict:=none,data:=dt}}:=
  I2.laid (t':=s2.toks) (fun b u e=>Heap.get?_push_of_some _ e) (Nat.le_refl _) (hob _ _)
 generalize hH:s2.heap.push {cls:=.type T0,dict:=none,data:=dt} = hp3 at tj sK I3 ⊢
 have hsz3:hp3.objs.size=s2.heap.objs.size+1:=by rw[<- hH,Heap.size_push]
 have kept3:∀b o,hp3.get? b=some o->kw.get? b=some o:=fun b o e=>sK.extBut b o (ne_of_lt (Heap.lt_size e)) (Heap.get?_push_of_some _ e)
 have old3:∀b o,s2.heap.get? b=some o->hp3.get? b=some o:=fun b o e=>by rw[<- hH];exact Heap.get?_push_of_some _ e
 have fplt:∀b∈fp,b<s2.heap.objs.size:=fun b hb=>by obtain⟨o,e,_⟩:=T.obj 0 _ st2 b hb;exact Heap.lt_size e
 have fpst:∀b∈fp,b ∉ frs X.stack:=fun b hb hz=>by
  rcases List.mem_cons.mp (I2.Dh b hz) with e|e
  ·exact (f2 b hb).2.1 e
  ·exact (f2 b hb).2.2.1 e
 obtain⟨s3,hs3⟩:∃s3:Shared,s3={s2 with heap:=hp3}:=⟨_,rfl⟩
 obtain⟨H3,hH3⟩:∃H3:Hp,H3=upd H2 s2.heap.objs.size oH:=⟨_,rfl⟩
 have heap3:s3.heap=hp3:=by rw[hs3]
 rw[<- hH3] at I3
 have I3':Inv X pins σ H3 s3:=by rw[hs3];exact I3
 have hloc:H3 hp3.objs.size=none:=by have:=I3'.hok.fresh (a:=hp3.objs.size) (by rw[heap3];exact Nat.le_refl _);exact this
 have okc:(aQ X N' scope cl fp s3 H3).Ok:=by
  refine⟨I3.ok.mod,?_,I3.ok.glob,I3.ok.blt,Nat.le_refl _,fun x y a h1 h2=>I3.ok.inj x y a (hC.sub x a h1) (hC.sub y a h2),fun x hx=>hC.has x hx,fun x a h=>(nomatch h),I3.ok.hd,I3.ok.qt,I3.ok.frames,.inl rfl,fun b hb=>⟨?_,fun x a h=>(f2 b hb).2.2.2.2.1 x a (hC.sub x a h)⟩,
   I3'.bs,le_trans I3.ok.bsz I3'.sz,fun b o e hb=>?_,fun b hb=>fpst b hb,I3'.stack,I3'.C5⟩
  ·exact hC.kind
  ·show b≠s3.heap.objs.size
   rw[heap3,hsz3]
   exact ne_of_lt (Nat.lt_succ_of_lt (fplt b hb))
  ·rcases (f2 b hb).2.2.2.1 with z|z
   ·exact I3.ok.KP b o e z
   ·exact absurd (lt_of_lt_of_le (Heap.lt_size (I3.ok.bs b o e).1) z) (lt_irrefl _)
 have I4:Inv (aQ X N' scope cl fp s3 H3) [] (cN cap σ) H3 {s2 with heap:=kw,toks:=s2.toks+([]:List (Str×Value)).length}:=by
  refine⟨okc,by show s2.os=s3.os;rw[hs3],I3.bare,Un.kept (by show ∀b o,s3.heap.get? b=some o->_;rw[heap3];exact kept3),⟨_,(by show kw.Ns s3.heap.objs.size _;rw[heap3];exact tj),fun i x v e1 e2 e3=>?_⟩,fun x a h=>?_,(by show H3 s3.heap.objs.size=none;rw[heap3];exact hloc),fun x a h=>I3.jE x a (hC.sub x a h),fun p hp=>?_,I3.hok.kept kept3,?_⟩
  ·obtain⟨j,h1,h2⟩:=zN e2
   obtain⟨hN,hv,hnl,hk⟩:=hC.cap i j x h1 e1
   obtain⟨m,_,hl⟩:=I3.loc
   obtain⟨u,r,lk⟩:=hl j x v hN h2 hv
   refine⟨u,r,.inr ⟨hk,?_⟩⟩
   obtain⟨a,ha⟩:=hC.has x hk
   rcases lk with ⟨z,_⟩|⟨_,a',z1,z2⟩
   ·exact absurd z hnl
   ·have:a'=a:=by have q:=hC.sub x a ha;rw[z1] at q;exact Option.some.inj q
    subst this
    obtain⟨o,ho,hd⟩:=z2
    exact⟨a',ha,o,kept3 _ _ ho,hd⟩
  ·obtain⟨v,o,ho,hd⟩:=I3.cell x a (hC.sub x a h)
   exact⟨v,o,kept3 _ _ ho,hd⟩
  ·have hp':p∈X.pn++pins:=mem_append_left _ (by simpa using (show p∈X.pn++[] from hp))
   obtain⟨z1,z2,z3,z4,z5⟩:=I3'.pin p hp'
   refine⟨kept3 _ _ (by rw[<- heap3];exact z1),z2,(show p.1≠s3.heap.objs.size from ne_of_lt (Heap.lt_size z1)),fun z=>?_,z5⟩
   rcases List.mem_cons.mp (I3'.Dh p.1 z) with e|e
   ·exact z3 e
   ·exact z4 e
  ·show (cN cap σ).length=N'.length
   unfold cN
   rw[length_map]
   exact hC.len
 have o0:ad s2.heap.objs.size=none:=S1.mu.free hfree2
 have wr:ad.b s2.heap.objs.size=none:=S1.mu.Jz hfree2
 obtain⟨P,p0,body,hfin⟩:=allp s2.heap.objs.size o0 wr
 obtain⟨m0,x0⟩:=hm0 S1.mu hfree2 hK2 (G1 I2)
 have loop:codeAny (model X.prog X.w) X.A (.compLoop E 0 (.ref it) (.ref s2.heap.objs.size) (aQ X N' scope cl fp s3 H3).env)
   (compPost (model X.prog X.w) X.A X.xe use QQ (.ref s2.heap.objs.size) hp3.objs.size) {s2 with heap:=kw,toks:=s2.toks+([]:List (Str×Value)).length}:=by
  refine codeAny_loop rfl (fun n s'=>∃(i:Nat) (io:St) (Hc:Hp) (im:Mu),n=xs.length-i/\i<=xs.length/\Inv (aQ X N' scope cl fp s3 H3) [] io Hc s'/\tn i s'.heap/\(∀b∈fp,Hc b=none) /\
   P i im/\St0 X.K Hc (cN cap ρ) im io/\Ext X.K ad H2 im Hc) (fun n s' hI=>?_) xs.length
   ⟨0,cN cap σ,H3,mk0 ad s2.heap.objs.size,by simp,zero_le _,I4,T.keep 0 _ _ st2 (fun b hb o e=>kept3 b o (old3 b o e)),fun b hb=>?_,p0,?_,?_⟩
  ·obtain⟨i,io,Hc,im,rfl,hi,Ic,tc,frc,pvi,Sc,Ec⟩:=hI
   refine hU ?_
   refine wpAny_noted ?_
   rw[hT]
   have stat:∀{Hd:Hp},(∀b∈fp,Hd b=none)->∀b∈fp,xG (aQ X N' scope cl fp s3 H3) [] Hd b:=fun hn b hb=>
    ⟨hn b hb,(okc.exf b hb).1,fpst b hb,.inl hb,fun x a h=>(okc.exf b hb).2 x a h,fun p hp=>(f2 b hb).2.2.2.2.2 p (mem_append_left _ (by simpa using (show p∈X.pn++[] from hp)))⟩
   obtain⟨go,stop⟩:=itok _ Hc Ec Sc.mu i
   refine wpAny_bind (wpAny_standAt (wpAny_bind ?_))
   by_cases hlt:i<xs.length
   ·obtain⟨g1,y1⟩:=go hlt
    refine wpAny_mono (T.item (aQ X N' scope cl fp s3 H3) rfl rfl rfl (fun z=>z) i [] s' io Hc (fun _ _=>False) Ic (stat frc) tc g1) (fun r s4 hr=>?_) fun _ _ h'=>h'.elim
    obtain⟨u,rfl,h4⟩:=hr
    refine wpAny_bind (wpAny_mono h4 (fun _ s5 h5=>?_) fun _ _ h'=>h'.elim)
    obtain⟨x,H5,I5,r5,y5,st5,fr5⟩:=h5
    obtain⟨d,hd,sm,rd⟩:=y1 x H5 y5
    have I5':=I5.pinned (stat fr5) (T.obj _ _ st5)
    have e5:Ext X.K _ Hc _ H5:=.of_same (U:=im) sm
    have S5:St0 X.K H5 (cN cap ρ) im io:=⟨Sc.mu.N7 e5 sm,Sc.rho.ext Sc.mu e5⟩
    obtain⟨gt,pg,lg⟩:=hg fp s3 H3
    refine wpAny_bind (wpAny_mono (pg _ s5 io H5 x u (fun bn H'=>∃ce Z,Ext X.K im H5 Z H'/\St0 X.K H' ce Z bn/\Le (cN cap ρ) ce/\Kb s2.heap.objs.size d ce Z (P (i+1))) I5' r5
     (lg io H5 (cN cap ρ) _ (.v d) x _ _ S5 rd (body i d im hd pvi) fun bn ce Z H' e' S' q=>⟨ce,Z,e',S',q⟩)) (fun _ s6 h6=>?_) fun _ _ h'=>h'.elim)
    obtain⟨tt,H6,I6,At,xL,e6,S6,le6,q6⟩:=h6
    refine wpAny_mono (hbd (it:=.ref it) (Q:=fun s9=>∃m,m<xs.length-i/\∃(i:Nat) (io:St) (Hc:Hp) (im:Mu),m=xs.length-i/\i<=xs.length/\Inv (aQ X N' scope cl fp s3 H3) [] io Hc s9/\tn i s9.heap/\(∀b∈fp,Hc b=none) /\
     P i im/\St0 X.K Hc (cN cap ρ) im io/\Ext X.K ad H2 im Hc) I6 S6 q6 fun s9 BT H9 ut I9 S9 e9 p9=>?_) (fun r s9 hr=>?_) fun _ _ h'=>h'.elim
    ·refine⟨xs.length-(i+1),∅,i+1,BT,H9,ut,rfl,hlt,I9.mC,T.keep _ _ _ st5 fun b hb o e=>(I9.pin (b,o) (mem_append_right _ (mem_append_right _ (fe hb e)))).1,fun b hb=>?_,p9,⟨S9.mu,S9.rho.le le6⟩,Ec.trans (e5.trans (e6.trans e9))⟩
     obtain⟨o,e,_⟩:=T.obj _ _ st5 b hb
     exact (I9.pin (b,o) (mem_append_right _ (mem_append_right _ (fe hb e)))).2.1
    ·obtain⟨rfl,q⟩:=hr
     exact⟨rfl,q⟩
   ·have ei:i=xs.length:=by omega
    subst ei
    refine wpAny_mono (T.done (aQ X N' scope cl fp s3 H3) rfl rfl rfl (fun z=>z) _ [] s' io Hc (fun _ _=>False) Ic (stat frc) tc (stop rfl)) (fun r s4 hr=>?_) fun _ _ h'=>h'.elim
    obtain⟨rfl,I5⟩:=hr
    refine wpAny_pure ?_
    obtain⟨m,hn,_⟩:=I5.loc
    have hcC:Hc hp3.objs.size=none:=by have z:Hc s3.heap.objs.size=none:=I5.free;rw[heap3] at z;exact z
    obtain⟨d,ls,eF,SF,rF,qF⟩:=hend o0 wr e1 S1 Ec Sc.mu (hfin _ pvi)
    refine hd0 s4 Hc hp3.objs.size s2.heap.objs.size m d ls (by have z:s4.heap.Ns s3.heap.objs.size m:=hn;rw[heap3] at z;exact z) (I2.Lu (by rw[hsz3];exact Nat.le_succ _) hcC) (fun h' hs'=>?_) eF SF rF qF
    have kp:∀b o,b<s2.heap.objs.size->s4.heap.get? b=some o->h'.get? b=some o:=fun b o hb e=>hs'.extBut b o (by rw[hsz3];exact ne_of_lt (Nat.lt_succ_of_lt hb)) e
    have hok':HOk X.prog X.w Hc h':=fun b ob e=>by
     refine (I5.hok b ob e).xa (fun cc v hcc q=>hs'.extBut cc v ?_ q) (fun _ q=>q) fun _ _ q=>q
     rintro rfl
     rcases hcc with z|z
     ·rw[<- z,hcC] at e;cases e
     ·rw[hcC] at z;cases z
    have u1:Un (frs X.stack) fp H2 H3 s2.heap s3.heap:=by rw[heap3,hH3];exact Un.laid old3 (Nat.le_refl _) hfree2
    have u2:Un (frs X.stack) fp H3 Hc s3.heap s4.heap:=I5.base
    exact I2.II (ch:=fp) (by show s4.os=s2.os;have z:s4.os=s3.os:=I5.os;rw[z,hs3]) (Un.after (u1.trans u2) kp) hok' I5.bare fun b hb=>⟨(f2 b hb).2.2.2.1,(f2 b hb).2.1,(f2 b hb).2.2.2.2.1,(f2 b hb).2.2.2.2.2⟩
  ·have z:b≠s2.heap.objs.size:=ne_of_lt (fplt b hb)
   rw[hH3,aP z]
   exact (f2 b hb).1
  ·rw[hH3]
   exact⟨m0,(S1.rho.ext S1.mu x0).cap⟩
  ·rw[hH3]
   exact x0
 have envE:(aQ X N' scope cl fp s3 H3).env=compEnvC scope cl hp3.objs.size X.env:=by show compEnvC scope cl s3.heap.objs.size X.env=_;rw[heap3]
 rw[envE] at loop
 exact hst loop (T.self X.A 0 _ _ _ (T.keep 0 _ _ st2 (fun b hb o e=>kept3 b o (old3 b o e))) loop)
theorem Fc{X:Cx}{N':List Str}{scope:Scope}{cl:List (Str×Addr)}{cap:List (Option Nat)}
  (h1:∀y∈scope.names,y.2≠.cell:=by decide +kernel) (h2:scope.kind = .function:=by rfl) (h3:∀y∈scope.names,y.2 = .local->scope.names.lookup y.1=some .local:=by decide +kernel)
  (h4:∀x a,cl.lookup x=some a->X.env.cells.lookup x=some a:=by intro _ _ h;first|exact h|exact cl1 h|exact cl2 nofun h|exact cl3 nofun h|exact md (ej rfl wY) _ _ h|exact md (ej rfl (ej rfl wY)) _ _ h|exact md (ej rfl (ej rfl (ej rfl wY))) _ _ h|exact md wY _ _ h|cases h)
  (h5:∀x,(relabel scope X.env).names.lookup x=some .cell\/(relabel scope X.env).names.lookup x=some .free->∃a,cl.lookup x=some a:=by exact Lj rfl) (h6:cap.length=N'.length:=by rfl)
  (h7:∀(i j:Nat) (x:Str),cap[i]? = some (some j)->N'[i]? = some x->X.N[j]? = some x/\Vis X.env.scope x/\X.env.kindOf x≠some .local/\((relabel scope X.env).names.lookup x=some .cell\/(relabel scope X.env).names.lookup x=some .free):=by exact HR (by repeat' first|exact trivial|refine⟨UW,?_⟩)):CH X N' scope cl cap:=⟨h1,h2,h3,h4,h5,h6,h7⟩
section
variable {X:Cx}{N':List Str}{scope:Scope}{cl:List (Str×Addr)}{iter tg:Expr}{ifs:List Expr}{pos:Pos}{cap:List (Option Nat)}{src:DTI}{g:DTG}{c:DTT}
theorem BJ{elt:Expr}{te:DTE}(hclos:closureFor scope X.env=pure cl)(hi:DI X tg iter src)(hg:∀fp bv db,DG (aQ X N' scope cl fp bv db) tg g)(hif:∀fp bv db,Ao (aQ X N' scope cl fp bv db) ifs c)(he:∀fp bv db,DE (aQ X N' scope cl fp bv db) elt te)
  (hC:CH X N' scope cl cap) (hs:∀x,foldedSetIterable iter X.env x=pure x):Core X (.ListComp elt [⟨tg,iter,ifs,0⟩] scope pos) scope (newList []) iter (ie cap src g c te):=by
 refine HX (gc:=⟨tg,iter,ifs,0⟩) (oH:=.lst []) (mk0:=fun U p=>aR U p [])
  (Kb:=fun p _ ρ U R=>upT c ρ U fun b bi=>if b=true then upE te ρ bi fun d ge=>∃acc y,ge p=some acc/\acc.length<=1000/\d = .v y/\R (aR ge p (acc++[y])) else R bi)
  (fin:=fun Qd _ p Z=>∃acc,Z p=some acc/\Qd (.v (.list acc)) (lK Z p))
  hclos hC (GP hi) (fun a b c=>JA (hg a b c)) rfl hs codeAny_compStart_list (fun it D env=>compTurn_list elt tg iter ifs scope pos it (.ref D) env) (fun h=>h) (zero_le _) (fun H h=>⟨zero_le _,[],0,.nil,Heap.get?_push_size _ rfl⟩)
  (fun m f k _=>⟨m.mut .nil f k,qj m f k⟩) ?_ ?_ ?_
 ·intro fp s3 H3 pins s σ H ρ U p d it Qm Q I S q k
  refine wpAny_bind (wpAny_mono (CM (hif fp s3 H3) pins s σ H ρ U _ (fun b H'=>∃Z,Ext X.K U H Z H'/\St0 X.K H' ρ Z σ/\if b=true then upE te ρ Z fun d ge=>∃acc y,ge p=some acc/\acc.length<=1000/\d = .v y/\Qm (aR ge p (acc++[y])) else Qm Z) I S q fun b Z H' e' S' q=>⟨Z,e',S',q⟩)
   (fun ok s7 h7=>?_) fun _ _ h'=>h'.elim)
  obtain⟨H7,I7,zn,e7,S7,q7⟩:=h7
  cases ok with
  |false=>
   rw[if_neg ⋯] at q7
   exact wpAny_pure ⟨rfl,k _ _ _ _ I7 S7 e7 q7⟩
  |true=>
   rw[if_pos rfl] at q7
   refine wpAny_bind (wpAny_bind (wpAny_mono ((IA (he fp s3 H3)).use I7 S7 q7) (fun v s8 h8=>?_) fun _ _ h'=>h'.elim))
   obtain⟨d',v8,v4,H8,I8,r8,e8,S8,ry,acc,y,pa,hle,rfl,q8⟩:=h8
   obtain⟨us,hacc,rus⟩:=S8.mu.lst p _ pa
   refine wpAny_bind (wpAny_mono (uZ (X:=aQ X N' scope cl fp s3 H3) _ s8 σ H8 (.ref p) [v8] (.ref p) [v] (fun _ H'=>H'=upd H8 p (.lst (us++[v8]))) I8 rfl (.cons r8 .nil) ⟨_,us,v8,rfl,rfl,hacc,by rw[<- rus.length];exact iu hle,rfl⟩) (fun _ s9 h9=>?_) fun _ _ h'=>h'.elim)
   obtain⟨_,H9,I9,_,e9⟩:=h9
   subst e9
   have ex:Ext X.K v4 H8 (aR v4 p (acc++[y])) (upd H8 p (.lst (us++[v8]))):=kd pa
   exact wpAny_pure (wpAny_pure ⟨rfl,k _ _ _ _ I9 ⟨S8.mu.set pa (rus.append (.cons ry .nil)),S8.rho.ext S8.mu ex⟩ (e7.trans (e8.trans ex)) q8⟩)
 ·intro ρ U Qd h
  refine⟨_,h,fun xs ad hx p hp _=>?_⟩
  obtain⟨hl,f⟩:=hx
  obtain⟨Pv,p0,body,fin⟩:=f p hp
  refine⟨fun i Z=>∃acc,Z p=some acc/\acc.length<=i/\Pv i acc Z,⟨[],aM,Nat.le_refl _,p0⟩,fun i x Z hx hP=>?_,fun Z hP=>?_⟩
  ·obtain⟨acc,e,l,v⟩:=hP
   have li:i<xs.length:=(List.getElem?_eq_some_iff.mp hx).1
   refine⟨_,body i x acc Z hx e v,fun dL am hq=>⟨hq.1,_,hq.2,fun b bi r=>?_⟩⟩
   cases b with
   |false=>
    rw[if_neg ⋯] at r ⊢
    exact⟨acc,r.1,Nat.le_succ_of_le l,r.2⟩
   |true=>
    rw[if_pos rfl] at r ⊢
    refine⟨_,r,fun d ge hm=>?_⟩
    obtain⟨e4,m⟩:=hm
    split at m
    ·exact⟨acc,_,e4,∅,rfl,_,aM,by rw[length_append];exact Nat.succ_le_succ l,m⟩
    ·exact m.elim
  ·obtain⟨acc,e,_,v⟩:=hP
   exact⟨acc,e,fin acc Z v e⟩
 ·intro Qd σ ρ p U ad im H H1 Hc o0 _ e1 S1 Ec Sc hF
  obtain⟨acc,hpa,q⟩:=hF
  obtain⟨us,hacc,rus⟩:=Sc.lst p _ hpa
  have shr:∀a,im a=none->lK im p a=none:=fun a e=>by
   by_cases z:a=p
   ·rw[z];exact ia
   ·rw[gF z];exact e
  have dne:∀a ds,lK im p a=some ds->im a=some ds:=fun a ds e=>by
   by_cases z:a=p
   ·rw[z,ia] at e;cases e
   ·rw[gF z] at e;exact e
  have eF:Ext X.K ad H1 (lK im p) Hc:=by
   refine⟨Ec.keep,Ec.tb,fun b ds q=>?_,fun b q z=>shr b (Ec.fresh b q z),Ec.st,fun b c q=>Ec.bx b c q⟩
   obtain⟨es,q2⟩:=Ec.dom b ds q
   have:b≠p:=fun z=>by rw[z,o0] at q;cases q
   exact⟨es,by rw[gF this];exact q2⟩
  have mF:bC X.K (lK im p) Hc:=⟨fun a ds q=>by
   obtain⟨ys,z1,z2⟩:=Sc.lst a ds (dne a ds q)
   exact⟨ys,z1,z2.shrink shr⟩,Sc.tab,fun a c q=>let ⟨z,o,w1,w2⟩:=Sc.box a c q;⟨z,o,w1,w2.shrink shr⟩⟩
  exact⟨.v (.list acc),_,e1.trans eF,⟨mF,S1.rho.ext S1.mu eF⟩,Rp.list hacc ia (rus.shrink shr),q⟩
theorem J5{kx vx:Expr}{tk tv:DTE}(hclos:closureFor scope X.env=pure cl)(hu:X.A.units+64<cLine)(hi:DI X tg iter src)(hg:∀fp bv db,DG (aQ X N' scope cl fp bv db) tg g)(hif:∀fp bv db,Ao (aQ X N' scope cl fp bv db) ifs c)(hkx:∀fp bv db,DE (aQ X N' scope cl fp bv db) kx tk)(hvx:∀fp bv db,DE (aQ X N' scope cl fp bv db) vx tv)
  (hC:CH X N' scope cl cap) (hs:∀x,foldedSetIterable iter X.env x=pure x):Core X (.DictComp kx vx [⟨tg,iter,ifs,0⟩] scope pos) scope newDict iter (Ae cap src g c tk tv):=by
 refine HX (gc:=⟨tg,iter,ifs,0⟩) (oH:=.raw {cls:=.type "dict",dict:=none,data:=.dict #[]}) (mk0:=fun U p=>bP U p (.dict []))
  (Kb:=fun p _ ρ U R=>upT c ρ U fun b bi=>if b=true then upE tk ρ bi fun dk ge=>upE tv ρ ge fun dv ii=>∃kvs kk y,ii.b p=some (.dict kvs)/\kvs.length<=1000/\rQ dk=some kk/\dv = .v y/\R (bP ii p (.dict (jg kvs kk y))) else R bi)
  (fin:=fun Qd _ p Z=>(∃c,Z.b p=some c)/\Qd (.b p) Z)
  hclos hC (GP hi) (fun a b c=>JA (hg a b c)) rfl hs codeAny_compStart_dict (fun it D env=>compTurn_dict kx vx tg iter ifs scope pos it D env) (fun h=>h) (zero_le _) (fun H h=>Heap.get?_push_size _ rfl)
  (fun m f _ z=>⟨m.HN z f (BM rfl),nE m f⟩) ?_ ?_ (fun {_ _ _ p _ _ _ _ _ _} _ _ e1 S1 Ec Sc hF=>⟨.b p,_,e1.trans Ec,⟨Sc,S1.rho.ext S1.mu Ec⟩,⟨rfl,hF.1⟩,hF.2⟩)
 ·intro fp s3 H3 pins s σ H ρ U p d it Qm Q I S q k
  refine wpAny_bind (wpAny_mono (CM (hif fp s3 H3) pins s σ H ρ U _ (fun b H'=>∃Z,Ext X.K U H Z H'/\St0 X.K H' ρ Z σ/\if b=true then upE tk ρ Z fun dk ge=>upE tv ρ ge fun dv ii=>∃kvs kk y,ii.b p=some (.dict kvs)/\kvs.length<=1000/\rQ dk=some kk/\dv = .v y/\Qm (bP ii p (.dict (jg kvs kk y))) else Qm Z) I S q fun b Z H' e' S' q=>⟨Z,e',S',q⟩)
   (fun ok s7 h7=>?_) fun _ _ h'=>h'.elim)
  obtain⟨H7,I7,zn,e7,S7,q7⟩:=h7
  cases ok with
  |false=>
   rw[if_neg ⋯] at q7
   exact wpAny_pure ⟨rfl,k _ _ _ _ I7 S7 e7 q7⟩
  |true=>
   rw[if_pos rfl] at q7
   refine wpAny_bind (wpAny_bind (wpAny_mono ((IA (hkx fp s3 H3)).use I7 S7 q7) (fun v s8 h8=>?_) fun _ _ h'=>h'.elim))
   obtain⟨dk,uk,v4,H8,I8,rk,e8,S8,rdk,q9⟩:=h8
   refine wpAny_bind (wpAny_holding (wpAny_mono ((IA (hvx fp s3 H3)).use I8 S8 q9) (fun v' s9 h9=>?_) fun _ _ h'=>h'.elim))
   obtain⟨dv,uv,ut,H9,I9,rv,e9,S9,rdv,kvs,kk,y,hb0,hle,hk,ev,q10⟩:=h9
   subst ev
   obtain⟨qk,rfl,hq8⟩:=pX rdk hk
   have hq:SqT X.K H9 qk (kk.map V.int):=mJ S8.mu e9 hq8
   cases rk
   obtain⟨ns,ob,hr,hb⟩:=S9.mu.box p _ hb0
   obtain⟨es,dp,dd,len⟩:=qg I9 hr hb
   refine wpAny_bind (wpAny_standAt (wpAny_holding (wpAny_mono (wpAny_dictSet_heap (hsz:=len) (show X.A.units<cLine by omega) (iw I9 hq) dd (Q:=fun _ s'=>Q s') fun h' dd' sb=>?_) (fun _ s' h=>wpAny_pure ⟨rfl,h⟩) fun _ _ h'=>h')))
   have hl:(jg kvs kk y).length<=sizeLine:=by
    have h1:=xU kvs kk y
    rw[sizeLine_eq];omega
   obtain⟨o',g1,g2⟩:=Bw (X:=X) (U:=ut) (H:=H9) hl (dp.put hq rdv rv) dd'
   have exx:=xl (K:=X.K) (U:=ut) (c:=.dict (jg kvs kk y)) (o':=o') hr
   exact k _ _ _ _ (Cq (ob:=.raw o') I9 (by rw[hr];exact True.intro) sb ⟨o',g1⟩ g1) ⟨S9.mu.Hu ns hr g2,S9.rho.ext S9.mu exx⟩ (e7.trans (e8.trans (e9.trans exx))) q10
 ·intro ρ U Qd h
  refine⟨_,h,fun xs ad hx p _ hp=>?_⟩
  obtain⟨hl,f,body,fin⟩:=hx
  have ll:∀i,(putAll ((xs.take i).filterMap f)).length<=1000:=fun i=>le_trans (HF _) (le_trans (List.length_filterMap_le _ _) (le_trans (by rw[length_take];exact Nat.min_le_right _ _) hl))
  refine⟨fun i Z=>Z=bP ad p (.dict (putAll ((xs.take i).filterMap f))),rfl,fun i x Z hx hP=>?_,fun Z hP=>?_⟩
  ·subst hP
   refine⟨_,body x (mem_of_getElem? hx) _ (fun a ds e=>e),fun dL am hq=>⟨hq.1,_,hq.2,fun b bi r=>?_⟩⟩
   cases b with
   |false=>
    rw[if_neg ⋯] at r ⊢
    show _=bP _ _ _
    rw[r.1,FY hx,r.2]
    simp
   |true=>
    rw[if_pos rfl] at r ⊢
    refine⟨_,r,fun dk ge hm=>⟨_,hm,fun dv ii hv=>?_⟩⟩
    obtain⟨rfl,kk,y,hk,ev,fy⟩:=hv
    refine⟨_,kk,y,br,ll i,hk,ev,?_⟩
    show bP _ _ _=bP _ _ _
    rw[FY hx,fy]
    show bP _ _ _=bP _ _ (.dict (putAll (_++[(kk,y)])))
    rw[putAll_snoc,J0]
  ·subst hP
   rw[take_length]
   exact⟨⟨_,br⟩,fin p hp⟩
end
theorem M0{X:Cx}{N':List Str}{scope:Scope}{cl:List (Str×Addr)}{elt iter tg tg2 iter2:Expr}{pos:Pos}{cap:List (Option Nat)}{src src2:DTI}{g g2:DTG}{te:DTE}(hclos:closureFor scope X.env=pure cl)
  (hi:DI X tg iter src) (hg:∀fp bv db,DG (aQ X N' scope cl fp bv db) tg g) (hi2:∀fp bv db,DI (aQ X N' scope cl fp bv db) tg2 iter2 src2) (hg2:∀fp bv db,DG (aQ X N' scope cl fp bv db) tg2 g2) (he:∀fp bv db,DE (aQ X N' scope cl fp bv db) elt te)
  (hC:CH X N' scope cl cap) (hs:∀x,foldedSetIterable iter X.env x=pure x) (hs2:∀(env:Env) x,foldedSetIterable iter2 env x=pure x):Core X (two elt tg iter tg2 iter2 scope pos) scope (newList []) iter (yY cap src g src2 g2 te):=by
 refine HX (gc:=⟨tg,iter,[],0⟩) (oH:=.lst []) (mk0:=fun U p=>aR U p [])
  (Kb:=fun p _ ρ U R=>∃acc zs,U p=some acc/\acc.length+zs.length<=1000/\(upI src2 ρ U fun ys bi=>bi=U/\∃h:PyData->PyData,zs=ys.map h/\∀y∈ys,∀gV:Mu,(∀a ds,a≠p->U a=some ds->gV a=some ds)->g2 (.v y) ρ gV fun ln ge=>Le ρ ln/\te ln ge fun d ii=>ii=gV/\d = .v (h y))/\R (aR U p (acc++zs)))
  (fin:=fun Qd ad p Z=>∃acc,Z=aR ad p acc/\Qd (.v (.list acc)) ad)
  hclos hC (GP hi) (fun a b c=>JA (hg a b c)) rfl hs codeAny_compStart_list (fun it D env=>AG elt tg iter tg2 iter2 scope pos it (.ref D) env) (fun h=>h) (zero_le _) (fun H h=>⟨zero_le _,[],0,.nil,Heap.get?_push_size _ rfl⟩)
  (fun m f k _=>⟨m.mut .nil f k,qj m f k⟩) ?_ ?_ ?_
 ·intro fp s3 H3 pins s σ H ρ U p d it Qm Q I S q k
  obtain⟨acc,zs,hp,hl,q1,q2⟩:=q
  refine wpAny_bind (wpAny_mono (J2 (GP (hi2 fp s3 H3)) (hg2 fp s3 H3) (he fp s3 H3) I S hp hl q1) (fun x s4 h4=>wpAny_bind (wpAny_standAt (wpAny_bind (wpAny_of_eq (hs2 _ x) (wpAny_bind (wpAny_holding (wpAny_mono h4 (fun it2 s5 h5=>wpAny_bind (wpAny_runOwn (codeAny_mono h5 fun r s6 h6=>?_))) fun _ _ h'=>h'.elim))))))) fun _ _ h'=>h'.elim)
  obtain⟨f,rfl,tt,H6,I6,S6,e6⟩:=h6
  exact wpAny_pure ⟨rfl,k _ _ _ _ I6 S6 e6 q2⟩
 ·intro ρ U Qd h
  refine⟨_,h,fun xs ad hx p hp _=>?_⟩
  obtain⟨hl,f,hfl,body,fin⟩:=hx
  have sub1:∀ys a ds,ad a=some ds->aR ad p ys a=some ds:=fun ys a ds e=>by rw[aT (fun z=>by rw[z,hp] at e;cases e)];exact e
  refine⟨fun i Z=>Z=aR ad p ((xs.take i).flatMap f),rfl,fun i x Z hx hP=>?_,fun Z hP=>?_⟩
  ·subst hP
   refine⟨_,body x (mem_of_getElem? hx) _ (sub1 _),fun dL am hq=>?_⟩
   obtain⟨le,rfl,q⟩:=hq
   have et:(xs.take (i+1)).flatMap f=(xs.take i).flatMap f++f x:=by
    obtain⟨hi',e⟩:=List.getElem?_eq_some_iff.mp hx
    rw[List.take_succ_eq_append_getElem hi',List.flatMap_append,e]
    simp
   refine⟨le,_,f x,aM,?_,⟨_,q,fun ys bi hy=>?_⟩,by show aR _ _ _=aR _ _ _;rw[ic,et]⟩
   ·have h1:((xs.take (i+1)).flatMap f).length<=(xs.flatMap f).length:=by
     have:xs.flatMap f=(xs.take (i+1)).flatMap f++(xs.drop (i+1)).flatMap f:=by rw[<- List.flatMap_append,List.take_append_drop]
     rw[this,length_append]
     omega
    rw[et,length_append] at h1
    omega
   ·obtain⟨z1,h,z2,z3⟩:=hy
    refine⟨z1,h,z2,fun y hy gV sb=>z3 y hy gV fun a ds e=>?_⟩
    have ne:a≠p:=fun z=>by rw[z,hp] at e;cases e
    exact sb a ds ne (by rw[aT ne];exact e)
  ·subst hP
   rw[take_length]
   exact⟨_,rfl,fin⟩
 ·intro Qd σ ρ p U ad im H H1 Hc o0 _ e1 S1 Ec Sc hF
  obtain⟨acc,rfl,q⟩:=hF
  obtain⟨us,hacc,rus⟩:=Sc.lst p _ aM
  have shr:∀a,aR ad p acc a=none->ad a=none:=fun a e=>by
   by_cases z:a=p
   ·rw[z];exact o0
   ·rw[aT z] at e;exact e
  have eF:Ext X.K ad H1 ad Hc:=by
   refine⟨Ec.keep,Ec.tb,fun b ds q=>⟨ds,q⟩,fun b q z=>q,Ec.st,fun b c q=>Ec.bx b c q⟩
  have mF:bC X.K ad Hc:=⟨fun a ds q=>by
   obtain⟨ys,z1,z2⟩:=Sc.lst a ds (by rw[aT (fun z=>by rw[z,o0] at q;cases q)];exact q)
   exact⟨ys,z1,z2.shrink shr⟩,Sc.tab,fun a c q=>let ⟨z,o,w1,w2⟩:=Sc.box a c q;⟨z,o,w1,w2.shrink shr⟩⟩
  exact⟨.v (.list acc),_,e1.trans eF,⟨mF,S1.rho.ext S1.mu eF⟩,Rp.list hacc o0 (rus.shrink shr),q⟩
section
variable {X:Cx}{N':List Str}{scope:Scope}{cl:List (Str×Addr)}{iter tg:Expr}{ifs:List Expr}{pos:Pos}{cap:List (Option Nat)}{src:DTI}{g:DTG}{c:DTT}
theorem Jw{elt:Expr}{te:DTE}(hclos:closureFor scope X.env=pure cl)(hi:DI X tg iter src)(hg:∀fp bv db,DG (aQ X N' scope cl fp bv db) tg g)(hif:∀fp bv db,Ao (aQ X N' scope cl fp bv db) ifs c)(he:∀fp bv db,DE (aQ X N' scope cl fp bv db) elt te)
  (hC:CH X N' scope cl cap:=by exact Fc) (hs:∀x,foldedSetIterable iter X.env x=pure x:=by intro _;rfl):DE X (.ListComp elt [⟨tg,iter,ifs,0⟩] scope pos) (ie cap src g c te):=Jo (BJ hclos hi hg hif he hC hs) (eval_ListComp _ _ _ _)
theorem vP{elt:Expr}{te:DTE}(hclos:closureFor scope X.env=pure cl)(hi:DI X tg iter src)(hg:∀fp bv db,DG (aQ X N' scope cl fp bv db) tg g)(hif:∀fp bv db,Ao (aQ X N' scope cl fp bv db) ifs c)(he:∀fp bv db,DE (aQ X N' scope cl fp bv db) elt te)
  (hC:CH X N' scope cl cap:=by exact Fc) (hs:∀x,foldedSetIterable iter X.env x=pure x:=by intro _;rfl):DE X (.ListComp elt [⟨tg,iter,ifs,0⟩] scope pos) (pA cap src g c te):=
 SN (Jw hclos (GP hi) (fun a b c=>JA (hg a b c)) (fun a b c=>CM (hif a b c)) (fun a b c=>IA (he a b c)) hC hs) fun _ _ _=>Kq
theorem IS{i:Nat}{x:Str}{pos' spos:Pos}{elt:Expr}{te:DTE}(hN:X.N.Nodup)(hix:X.N[i]? = some x)(hx:X.env.scope.names.lookup x=some .local)(hclos:closureFor scope X.env=pure cl)(hi:DI X tg iter src)(hg:∀fp bv db,DG (aQ X N' scope cl fp bv db) tg g)(hif:∀fp bv db,Ao (aQ X N' scope cl fp bv db) ifs c)(he:∀fp bv db,DE (aQ X N' scope cl fp bv db) elt te)
  (hC:CH X N' scope cl cap:=by exact Fc) (hs:∀x,foldedSetIterable iter X.env x=pure x:=by intro _;rfl) (hsw:swapsWith (.ListComp elt [⟨tg,iter,ifs,0⟩] scope pos) (some (.Name x pos')) spos.line X.env=pure true:=by rfl):DS X (.Assign [.Name x pos'] (.ListComp elt [⟨tg,iter,ifs,0⟩] scope pos) spos) (bc (ie cap src g c te) (aq i)):=
 IM (BJ hclos hi hg hif he hC hs) hN hix hx hsw rfl
theorem Qg{i:Nat}{x:Str}{pos' spos:Pos}{kx vx:Expr}{tk tv:DTE}(hN:X.N.Nodup)(hix:X.N[i]? = some x)(hx:X.env.scope.names.lookup x=some .local)(hclos:closureFor scope X.env=pure cl)(hu:X.A.units+64<cLine)(hi:DI X tg iter src)(hg:∀fp bv db,DG (aQ X N' scope cl fp bv db) tg g)(hif:∀fp bv db,Ao (aQ X N' scope cl fp bv db) ifs c)(hkx:∀fp bv db,DE (aQ X N' scope cl fp bv db) kx tk)(hvx:∀fp bv db,DE (aQ X N' scope cl fp bv db) vx tv)
  (hC:CH X N' scope cl cap:=by exact Fc) (hs:∀x,foldedSetIterable iter X.env x=pure x:=by intro _;rfl) (hsw:swapsWith (.DictComp kx vx [⟨tg,iter,ifs,0⟩] scope pos) (some (.Name x pos')) spos.line X.env=pure true:=by rfl):DS X (.Assign [.Name x pos'] (.DictComp kx vx [⟨tg,iter,ifs,0⟩] scope pos) spos) (bc (Ae cap src g c tk tv) (aq i)):=
 IM (J5 hclos hu hi hg hif hkx hvx hC hs) hN hix hx hsw rfl
theorem Qp{elt tg2 iter2:Expr}{src2:DTI}{g2:DTG}{te:DTE}(hclos:closureFor scope X.env=pure cl)(hi:DI X tg iter src)(hg:∀fp bv db,DG (aQ X N' scope cl fp bv db) tg g)(hi2:∀fp bv db,DI (aQ X N' scope cl fp bv db) tg2 iter2 src2)(hg2:∀fp bv db,DG (aQ X N' scope cl fp bv db) tg2 g2)(he:∀fp bv db,DE (aQ X N' scope cl fp bv db) elt te)
  (hC:CH X N' scope cl cap:=by exact Fc) (hs:∀x,foldedSetIterable iter X.env x=pure x:=by intro _;rfl) (hs2:∀(env:Env) x,foldedSetIterable iter2 env x=pure x:=by intro _ _;rfl):DE X (two elt tg iter tg2 iter2 scope pos) (yY cap src g src2 g2 te):=
 Jo (M0 hclos hi hg hi2 hg2 he hC hs hs2) (eval_ListComp _ _ _ _)
end
open PySem PySem.Spec PyProof.Rows NM
section
variable {U:Mu}{Q:DK}{ds:List D}{x y:N3}
theorem NS(a b c:Int):PyData.tuple [.int a,.int b,.int c]=dN ⟨a,b,c⟩:=rfl
theorem HU:aF (.v (dN x)) (.v (.int 0)) U Q=Q (.v (.int x.a)) U:=by unfold dN;rw[yE]
theorem GS:aF (.v (dN x)) (.v (.int 1)) U Q=Q (.v (.int x.b)) U:=by unfold dN;rw[zp]
theorem HV:aF (.v (dN x)) (.v (.int 2)) U Q=Q (.v (.int x.c)) U:=by unfold dN;rw[zJ]
theorem eqN:PyData.eqv (dN x) (dN y)=decide (x=y):=by
 unfold dN
 rw[SO,Bool.eq_iff_iff]
 simp only[decide_eq_true_eq]
 exact⟨fun h=>N3.ext' h.1 h.2.1 h.2.2,fun h=>by subst h;exact⟨rfl,rfl,rfl⟩⟩
theorem FZ{neg:Bool}:cU neg (.v (dN x)) (.v (dN y)) U Q=Q (.v (.bool (neg ^^ decide (x=y)))) U:=by
 rw[Qh,eqN]
 exact propext ⟨fun h=>h.2.2,fun h=>⟨rfl,rfl,h⟩⟩
theorem zM(h:Ok x):isNum (dN x)=true:=by
 have:=h.c
 show (decide (1<=x.c)&&(g3 x.a x.b x.c==1))=true
 rw[h.g]
 simp;omega
theorem Qt:Few (dN x):=by simp[dN,Few]
theorem HP{d a b c:Int}(h:aH d)(hc:0<c):sg d (low a b c).a (low a b c).b=sg d a b:=by
 obtain⟨k,hk,hs,p1,p2,p3,_⟩:=oO a b (show c≠0 by omega)
 have e:=lH (a:=(low a b c).a) (b:=(low a b c).b) h (hs.mpr hc)
 rw[<- p1,<- p2] at e
 exact e.symm
theorem EJ{d:Int}(h:aH d)(ox:Ok x)(oy:Ok y):sg d (times d x y).a (times d x y).b=sg d x.a x.b*sg d y.a y.b:=by
 unfold times
 rw[HP h (mul_pos ox.c oy.c),Hy h]
theorem p6{d:Int}(h:aH d)(ox:Ok x)(oy:Ok y):sg d (less x y).a (less x y).b=dif d x y:=by
 unfold less dif
 rw[HP h (mul_pos ox.c oy.c)]
theorem vZ{lo:Int}{n i:Nat}{x:PyData}(h:(mL lo n)[i]? = some x):x = .int (lo+i)/\i<n:=by
 unfold mL at h
 rw[getElem?_map] at h
 by_cases hi:i<n
 ·rw[List.getElem?_range hi] at h
  cases h
  exact⟨rfl,hi⟩
 ·rw[getElem?_eq_none (by simpa using hi)] at h
  cases h
theorem lA{lo:Int}{n:Nat}:(mL lo n).length=n:=by unfold mL;simp
end
end L2.DL
namespace NM
noncomputable abbrev T3:=Nat×Nat×Nat
noncomputable def N2(β:Bool)(c i j s:Nat):List T3:=(List.range c).map fun k=>if β=true then (i+k*s,j,s) else (i,j+k*s,s)
noncomputable def NK:List Nat->Bool->Nat->Nat->Nat->Nat->List T3
 |[],_,_,_,_,_=>[]
 |c::cs,true,i,j,a,b=>N2 true c i j b++NK cs false (i+c*b) j (a-c*b) b
 |c::cs,false,i,j,a,b=>N2 false c i j a++NK cs true i (j+c*a) a (b-c*a)
theorem Jf{β:Bool}{c i j s:Nat}:(N2 β c i j s).length=c:=by unfold N2;simp
theorem qe:∀(cs:List Nat) (β:Bool) (i j a b:Nat),(NK cs β i j a b).length=cs.sum
 |[],_,_,_,_,_=>rfl
 |c::cs,true,i,j,a,b=>by rw[NK];rw[length_append,Jf,qe cs,sum_cons]
 |c::cs,false,i,j,a,b=>by rw[NK];rw[length_append,Jf,qe cs,sum_cons]
end NM
namespace L2.DL
open PySem PySem.Spec PyProof.Rows NM
structure Tg{α:Sort u}(x:α):Type where
noncomputable def hd{α:Sort u}(x:α)(_:Tg x):α:=x
section
variable {ρ:Rho}{U:Mu}{Q:DK}{QT:Bool->Mu->Prop}{Dd:BF}{ta tb tc:DTE}{t u:DTT}{tA:DTA}{s1 s2:DTS}{d:D}{A B:Prop}{p:Tg A}{q:Tg B}
theorem Ub{w:Tg Q}:hd Q w d U=Q d U:=propext Iff.rfl
theorem l_T{i:Decidable True}:(if True then hd A p else hd B q)=A:=if_pos trivial
theorem l_F{i:Decidable False}:(if False then hd A p else hd B q)=B:=if_neg id
theorem l_t{i:Decidable (true=true)}:(if true=true then hd A p else hd B q)=A:=if_pos rfl
theorem l_f{i:Decidable (false=true)}:(if false=true then hd A p else hd B q)=B:=if_neg Bool.false_ne_true
theorem gP{c:Prop}{i:Decidable c}(h:c):(if c then hd A p else hd B q)=A:=if_pos h
theorem eN{c:Prop}{i:Decidable c}(h:¬ c):(if c then hd A p else hd B q)=B:=if_neg h
theorem Uh{i j:Int}{k:Decidable True}:(if True then i else j)=i:=if_pos trivial
theorem SM{i j:Int}{k:Decidable False}:(if False then i else j)=j:=if_neg id
theorem Uk{r}:dOp r ta tb ρ U Q=ta ρ U fun x ad=>tb ρ ad fun y am=>r x y am (hd Q .mk):=propext Iff.rfl
theorem Qf{g:DTG}:bc ta g Dd ρ U=ta ρ U (hd (fun d ad=>g d ρ ad Dd.nx) .mk):=propext Iff.rfl
theorem SW{rd}:dCB rd tA ρ U Q=tA ρ U fun ds ad=>rd ds ad (hd Q .mk):=propext Iff.rfl
theorem NQ{dsp:DSp}:ax dsp tA ρ U Q=tA ρ U fun ds ad=>dsp ds ad (hd Q .mk):=propext Iff.rfl
theorem Lg:vN t u ρ U QT=t ρ U fun c ad=>if c=true then hd (u ρ ad QT) .mk else hd (QT false ad) .mk:=propext Iff.rfl
theorem Qk:qu t u ρ U QT=t ρ U fun c ad=>if c=true then hd (QT true ad) .mk else hd (u ρ ad QT) .mk:=propext Iff.rfl
theorem Mv:nY ta tb ρ U Q=ta ρ U fun x ad=>match x with|.v (.bool c)=>if c=true then hd (tb ρ ad Q) .mk else hd (Q (.v (.bool false)) ad) .mk|_=>False:=propext Iff.rfl
theorem TY:dIf t ta tb ρ U Q=t ρ U fun c ad=>if c=true then hd (ta ρ ad Q) .mk else hd (tb ρ ad Q) .mk:=propext Iff.rfl
theorem Qr:cA t s1 s2 Dd ρ U=t ρ U fun b ad=>if b=true then hd (s1 Dd ρ ad) .mk else hd (s2 Dd ρ ad) .mk:=propext Iff.rfl
end
local macro_rules|`(tactic| walk_at "rn")=>mkW "↓Dq ↓DB ↓Ee ↓zz ↓Du ↓Dg ↓CO ↓DH ↓DN ↓CD ↓xu ↓q_c ↓Q9 ↓q_B ↓OE ↓Jt ↓Jv ↓HM ↓Qn ↓Dr ↓Lq ↓Cg ↓SJ ↓Bj ↓vj ↓Fn ↓Fe ↓Ek ↓FX ↓GD ↓EW ↓Gu ↓JL ↓xV ↓CQ ↓Ew ↓yE ↓zp ↓zJ ↓Eo ↓yZ ↓wL ↓Jy ↓Iq ↓Je ↓DQ ↓DU ↓N5 ↓sX ↓Cv ↓JO ↓IK ↓Su ↓yy ↓C4 ↓Em ↓Dk ↓IV ↓OA ↓CU ↓JQ ↓IH ↓qm ↓CI ↓xw ↓Cu ↓Dp ↓ME ↓IL ↓CP ↓Bl ↓Gy ↓Cs ↓MP ↓xq ↓Ny ↓Jr ↓JN ↓CL ↓tD ↓xA ↓tW ↓sH ↓uP ↓sU ↓JB LY ↓nA ↓j8 C1 Dy Jg Ip Jq bind_none bind_some join_some List.getElem?_cons_zero List.getElem?_cons_succ aK NS HU GS HV FZ qM ze yz Bf F8 List.map List.append List.replicate length_cons length_nil Nat.reduceAdd Nat.reduceSub nil_append cons_append set_cons_zero set_cons_succ map_some ↓reduceIte Bool.not_true Bool.not_false false_eq_true Bool.true_eq_false xor_false false_xor"
theorem EG{d:Int}{x y:N3}:dif d x y=OI d x y:=rfl
noncomputable def dG(d:Int):PyData->Bool
 |.tuple [.int a,.int b,.int c]=>isNum (.tuple [.int a,.int b,.int c])&&decide (sg d a b=1)
 |_=>false
noncomputable def iN:DSp:=fun ds U Q=>∃(d:Int) (t:PyData),ds=[.v (.int d),.v t]/\aH d/\Few t/\(∀x,t=dN x->Bd 8900 x)/\Q (.v (.bool (dG d t))) U
theorem CT{U:Mu}{Q:DK}{ds:List D}(h:iN ds U Q):ds.length=2:=by obtain⟨_,_,rfl,_⟩:=h;rfl
noncomputable def ki:DSp:=fun ds U Q=>∃(d:Int) (x:N3),ds=[.v (.int d),.v (dN x)]/\aH d/\Ok x/\Bd 8900 x/\sg d x.a x.b=1/\Q (.v .none) U
theorem xf{U:Mu}{Q:DK}{ds:List D}(h:ki ds U Q):ds.length=2:=by obtain⟨_,_,rfl,_⟩:=h;rfl
noncomputable def jd(a:Addr)(U Z:Mu):Prop:=Bag Z a/\∀b,b≠a->∀ds,U b=some ds->Z b=some ds
noncomputable def ff:DTS:=
 (bo (nY (ax vb (ag (ah 1) ar)) (dOp (cU false) (ax kJ (ag (ah 0) (ag (ah 1) ar))) (dC (.int 1)))))
noncomputable def cW:DTS:=
 (cA (gC (dB (ax iN (ag (ah 0) (ag (ah 1) ar))))) j4 bG)
section
variable {U:Mu}{Qd:DK}{ds:List D}
theorem j6{d:Int}{x:N3}(ox:Ok x):dG d (dN x)=decide (sg d x.a x.b=1):=by
 show (isNum (dN x)&&decide (sg d x.a x.b=1))=_
 rw[zM ox,Bool.true_and]
theorem zI{d:Int}{t:PyData}(h:isNum t=false):dG d t=false:=by
 unfold dG
 split
 ·rw[h,Bool.false_and]
 ·rfl
theorem il{t:PyData}(h:isNum t=true):∃x:N3,t=dN x/\Ok x:=by
 unfold isNum at h
 split at h
 ·rename_i a b c
  simp only[and_eq_true,decide_eq_true_eq,beq_iff_eq] at h
  exact⟨⟨a,b,c⟩,rfl,by show 0<c;omega,h.2⟩
 ·cases h
theorem rp(h:iN ds U Qd):ff ‹Qd› (aK ["d","thing"] ds) U:=by
 obtain⟨d,t,rfl,hd,ft,bt,q⟩:=h
 unfold ff
 walk_at "rn"
 refine⟨t,rfl,ft,?_⟩
 walk_at "rn"
 cases e:isNum t with
 |true=>
  walk_at "rn"
  obtain⟨x,rfl,ox⟩:=il e
  refine⟨d,x,rfl,hd,bt x rfl,?_⟩
  walk_at "rn"
  rw[j6 ox] at q
  exact q
 |false=>
  walk_at "rn"
  rw[zI e] at q
  exact q
theorem lN(h:ki ds U Qd):cW ‹Qd› (aK ["d","thing"] ds) U:=by
 obtain⟨d,x,rfl,hd,ox,bx,hx,q⟩:=h
 unfold cW
 walk_at "rn"
 refine⟨d,dN x,rfl,hd,Qt,fun y e=>?_,?_⟩
 ·have:y=x:=by
   simp only[dN,PyData.tuple.injEq,List.cons.injEq,PyData.int.injEq,and_true] at e
   exact N3.ext' e.1.symm e.2.1.symm e.2.2.symm
  rw[this];exact bx
 ·walk_at "rn"
  rw[j6 ox,hx]
  simp only[decide_true,Bool.not_true,false_eq_true,↓reduceIte]
  exact q
theorem LX{x:PyData}(h:SeqAt.shaped x=true):x.eqv x=true:=SeqAt.eqv_refl _ (SeqAt.canLay_of_shaped h)
theorem eq_str{U:Mu}{Qd:DK}{s:Str}(h:SeqAt.shaped (.str s)=true)(q:Qd (.v (.bool true)) U):cU false (.v (.str s)) (.v (.str s)) U Qd:=⟨h,h,by rw[LX h];exact q⟩
theorem oA{x y:N3}(e:dN x=dN y):x=y:=by
 simp only[dN,PyData.tuple.injEq,List.cons.injEq,PyData.int.injEq,and_true] at e
 exact N3.ext' e.1 e.2.1 e.2.2
theorem jd.trans{a:Addr}{U ad am:Mu}(h:jd a U ad)(g:jd a ad am):jd a U am:=⟨g.1,fun b n ds e=>g.2 b n ds (h.2 b n ds e)⟩
theorem Step.w{a:Addr}{U Z:Mu}(h:Step a U Z):jd a U Z:=⟨h.1,fun b n ds e=>by rw[h.2 b n];exact e⟩
end
section
variable {U:Mu}{Qd:DK}{ds:List D}
theorem jv{d:Int}{x:N3}(h:sg d x.a x.b=1):x≠ay:=fun e=>by subst e;have:sg d ay.a ay.b=0:=eU.mpr ⟨rfl,rfl⟩;omega
end
noncomputable def dh(d:Int)(ms:List N3):Prop:=ms.Pairwise fun a b=>dif d b a=1
noncomputable def ue:DSp:=fun ds U Q=>∃(d:Int) (p:Addr) (ms:List N3) (x:N3),ds=[.v (.int d),.m p,.v (dN x)]/\aH d/\U p=some (ms.map dN)/\(∀m∈ms,Ok m/\Bd 4400 m)/\Ok x/\Bd 4400 x/\dh d ms/\ms.length<=1000 /\
 ∀r:Nat,r<=ms.length->(∀i m,i<r->ms[i]? = some m->dif d x m=1)->(∀i m,r<=i->ms[i]? = some m->¬ dif d x m=1)->Q (.v (.int (r:Nat))) U
theorem C3{ds:List D}{U:Mu}{Q:DK}(h:ue ds U Q):ds.length=3:=by obtain⟨_,_,_,_,rfl,_⟩:=h;rfl
noncomputable def xW:DSp:=fun ds U Q=>∃(d:Int) (fs:List N3),ds=[.v (.int d),.v (.list (fs.map dN))]/\aH d/\(∀m∈fs,Ok m/\Bd 4400 m)/\fs.length<=1000 /\
 ∀p ms Z,U p=none->hZ U Z->Z p=some (ms.map dN)->dh d ms->(∀x,x∈ms↔x∈fs)->Q (.m p) Z
theorem Eb{ds:List D}{U:Mu}{Q:DK}(h:xW ds U Q):ds.length=2:=by obtain⟨_,_,rfl,_⟩:=h;rfl
noncomputable def j0:DTS:=
 (aL (bc (dC (.int 0)) (aq 3))
 (aL (bc (dCB cR (ag (ah 1) ar)) (aq 4))
 (aL (vD (dB (dOp rLt (ah 3) (ah 4))) (aL (bc (vC (bV (ah 3) (ah 4)) (dC (.int 2))) (aq 5))
 (cA (dB (ax xi (ag (ah 0) (ag (ah 2) (ag (dOp aF (ah 1) (ah 5)) ar))))) (bc (bV (ah 5) (dC (.int 1))) (aq 3)) (bc (ah 5) (aq 4)))))
 (bo (ah 3)))))
noncomputable def jb:DTS:=
 (aL (bc (uT ar) (aq 2))
 (aL (rH (fS (ah 1)) (aq 3) (aL (bc (ax ue (ag (ah 0) (ag (ah 2) (ag (ah 3) ar)))) (aq 4))
 (cA (qu (dB (dOp (cU false) (ah 4) (dCB cR (ag (ah 2) ar)))) (dB (dOp (cU true) (dOp aF (ah 2) (ah 4)) (ah 3)))) (j5 (Pk (ah 2) (ah 4) (ah 3))) bG)))
 (bo (ah 2))))
section
variable {U:Mu}{Qd:DK}{ds:List D}
theorem Qa(r s:Nat):(r:Int).fdiv (s:Int)=((r / s:Nat):Int):=by rw[Int.fdiv_eq_ediv_of_nonneg _ (Int.natCast_nonneg s)];rfl
theorem xN{ks:List N3}{i:Nat}{m:N3}(h:ks[i]? = some m):atI (ks.map dN) (i:Int)=some (dN m):=by
 have hl:i<ks.length:=by
  rcases lt_or_ge i ks.length with z|z
  ·exact z
  ·rw[getElem?_eq_none z] at h;cases h
 unfold atI ixN
 rw[if_pos ∅,if_pos (by rw[length_map];omega)]
 simp only[bind_some,Int.toNat_natCast]
 rw[getElem?_map,h]
 rfl
theorem lR{d:Int}{x y z:N3}(hd:aH d)(ox:Ok x)(oy:Ok y)(oz:Ok z)(h1:dif d x y=1)(h2:dif d y z=1):dif d x z=1:=by
 rw[EG] at *
 unfold OI at *
 have cx:=ox.c
 have cy:=oy.c
 have cz:=oz.c
 have a1:P d (z.c*(x.a*y.c-y.a*x.c)) (z.c*(x.b*y.c-y.b*x.c)):=(kZ hd).mp (by rw[lH hd cz];exact h1)
 have a2:P d (x.c*(y.a*z.c-z.a*y.c)) (x.c*(y.b*z.c-z.b*y.c)):=(kZ hd).mp (by rw[lH hd cx];exact h2)
 have a3:=(kZ hd).mpr (Uj hd a1 a2)
 have e1:z.c*(x.a*y.c-y.a*x.c)+x.c*(y.a*z.c-z.a*y.c)=y.c*(x.a*z.c-z.a*x.c):=by grind
 have e2:z.c*(x.b*y.c-y.b*x.c)+x.c*(y.b*z.c-z.b*y.c)=y.c*(x.b*z.c-z.b*x.c):=by grind
 rw[e1,e2,lH hd cy] at a3
 exact a3
theorem Ca{d:Int}{ms:List N3}(h:dh d ms){i j:Nat}{a b:N3}(hij:i<j)(ha:ms[i]? = some a)(hb:ms[j]? = some b):dif d b a=1:=by
 obtain⟨hi,rfl⟩:=List.getElem?_eq_some_iff.mp ha
 obtain⟨hj,rfl⟩:=List.getElem?_eq_some_iff.mp hb
 exact List.pairwise_iff_getElem.mp h i j hi hj hij
theorem dif_neg{d:Int}{x y:N3}(hd:aH d):dif d y x = - dif d x y:=by
 rw[EG,EG]
 unfold OI
 rw[<- Ad hd]
 congr 1<;>grind
theorem PB{d:Int}{x y:N3}(hd:aH d)(ox:Ok x)(oy:Ok y)(h:¬ dif d x y=1)(n:y≠x):dif d y x=1:=by
 rw[dif_neg hd]
 have t:dif d x y=0\/dif d x y=1\/dif d x y = -1:=by rw[EG];exact oB _ _ _
 rcases t with t|t|t
 ·exact absurd (L5 ox oy (by rw[<- EG];exact t)).symm n
 ·exact absurd t h
 ·rw[t];rfl
theorem LM{d:Int}{ms:List N3}{f:N3}{r:Nat}(hd:aH d)(gm:∀m∈ms,Ok m)(of:Ok f)(hr:dh d ms)(hl:r<=ms.length)(hb:∀i m,i<r->ms[i]? = some m->dif d f m=1)(ha:∀i m,r<=i->ms[i]? = some m->¬ dif d f m=1)(hn:∀m,ms[r]? = some m->m≠f):dh d (ms.take r++f::ms.drop r):=by
 unfold dh at *
 rw[List.pairwise_append]
 have hbm:∀m∈ms.take r,dif d f m=1:=fun m hm=>by
  obtain⟨i,hi,e⟩:=List.mem_iff_getElem.mp hm
  have hi':i<r:=by rw[length_take] at hi;omega
  refine hb i m hi' ?_
  rw[<- e,List.getElem_take]
  exact getElem?_eq_getElem _
 have ham:∀m∈ms.drop r,dif d m f=1:=fun m hm=>by
  obtain⟨i,hi,e⟩:=List.mem_iff_getElem.mp hm
  have hi2:r+i<ms.length:=by rw[length_drop] at hi;omega
  have em:ms[r+i]? = some m:=by rw[<- e,List.getElem_drop];exact getElem?_eq_getElem _
  have er:ms[r]? = some ms[r]:=getElem?_eq_getElem ∅
  have o1:=gm ms[r] (getElem_mem _)
  have b1:=PB hd of o1 (ha r _ (Nat.le_refl _) er) (hn _ er)
  cases i with
  |zero=>rw[Nat.add_zero,er] at em;cases em;exact b1
  |succ i=>exact lR hd (gm m (mem_of_getElem? em)) o1 of (Ca hr ∅ er em) b1
 refine⟨hr.sublist (List.take_sublist _ _),List.pairwise_cons.mpr ⟨ham,hr.sublist (List.drop_sublist _ _)⟩,fun a ha' b hb'=>?_⟩
 rcases List.mem_cons.mp hb' with rfl|hb'
 ·exact hbm a ha'
 ·exact lR hd (gm b (List.mem_of_mem_drop hb')) of (gm a (List.mem_of_mem_take ha')) (ham b hb') (hbm a ha')
theorem Py{α:Type}{ms:List α}{f x:α}{r:Nat}:x∈ms.take r++f::ms.drop r↔x=f\/x∈ms:=by
 rw[mem_append,mem_cons]
 have h:x∈ms↔x∈ms.take r\/x∈ms.drop r:=by
  conv=>lhs;rw[<- List.take_append_drop r ms]
  rw[mem_append]
 rw[h]
 constructor
 ·rintro (a|a|a)
  ·exact .inr (.inl a)
  ·exact .inl a
  ·exact .inr (.inr a)
 ·rintro (a|a|a)
  ·exact .inr (.inl a)
  ·exact .inl a
  ·exact .inr (.inr a)
theorem w8(h:xW ds U Qd):jb ‹Qd› (aK ["d","found","marks","x","place"] ds) U:=by
 obtain⟨d,fs,rfl,hd,gf,hl,q⟩:=h
 unfold jb
 walk_at "rn"
 intro p hp
 rw[mi]
 walk_at "rn"
 refine⟨fun i ρ Z=>∃r3 r4 ms,ρ=[some (.v (.int d)),some (.v (.list (fs.map dN))),some (.m p),r3,r4]/\hZ U Z/\Z p=some (ms.map dN)/\dh d ms/\(∀x,x∈ms↔x∈fs.take i)/\ms.length<=i,⟨_,_,[],rfl,hZ.refl.set hp,aM,List.Pairwise.nil,by simp,Nat.le_refl _⟩,?_,?_⟩
 ·rintro i x ρ Z hx ⟨r3,r4,ms,rfl,sb,hm,hr,hms,lm⟩
  have hil:i<fs.length:=by
   rcases lt_or_ge i fs.length with z|z
   ·exact z
   ·rw[getElem?_eq_none (by rw[length_map];exact z)] at hx;cases hx
  obtain⟨f,ef,rfl⟩:∃f,fs[i]? = some f/\x=dN f:=by
   rw[getElem?_map,getElem?_eq_getElem hil] at hx
   exact⟨fs[i],getElem?_eq_getElem hil,(Option.some.inj hx).symm⟩
  have gm:∀m∈ms,Ok m/\Bd 4400 m:=fun m h=>gf m (List.mem_of_mem_take ((hms m).mp h))
  obtain⟨of,bf⟩:=gf f (mem_of_getElem? ef)
  have tk:fs.take (i+1)=fs.take i++[f]:=by rw[take_succ,ef];rfl
  walk_at "rn"
  refine⟨d,p,ms,f,rfl,hd,hm,gm,of,bf,hr,∅,fun r rl hb ha=>?_⟩
  have fin:(∀m,ms[r]? = some m->m≠f)->∃r3 r4 ms',[some (D.v (.int d)),some (D.v (.list (fs.map dN))),some (D.m p),some (D.v (dN f)),some (D.v (.int (r:Nat)))]=[some (.v (.int d)),some (.v (.list (fs.map dN))),some (.m p),r3,r4]/\hZ U (aR Z p ((ms.map dN).take r++dN f::(ms.map dN).drop r))/\aR Z p ((ms.map dN).take r++dN f::(ms.map dN).drop r) p=some (ms'.map dN)/\dh d ms'/\(∀x,x∈ms'↔x∈fs.take (i+1))/\ms'.length<=i+1:=fun hn=>by
   refine⟨_,_,ms.take r++f::ms.drop r,rfl,sb.set hp,?_,LM hd (fun m h=>(gm m h).1) of hr rl hb ha hn,fun x=>?_,by simp;omega⟩
   ·rw[aM,map_append,map_cons,List.map_take,List.map_drop]
   ·rw[Py,tk,mem_append,mem_singleton,hms]
    exact Or.comm
  walk_at "rn"
  rw[hm]
  dsimp only
  rw[length_map]
  have put:(∀m,ms[r]? = some m->m≠f)->∀K:DK,(∀z,(∃r3 r4 ms',[some (D.v (.int d)),some (D.v (.list (fs.map dN))),some (D.m p),some (D.v (dN f)),some (D.v (.int (r:Nat)))]=[some (.v (.int d)),some (.v (.list (fs.map dN))),some (.m p),r3,r4]/\hZ U z/\z p=some (ms'.map dN)/\dh d ms'/\(∀x,x∈ms'↔x∈fs.take (i+1))/\ms'.length<=i+1)->K (.v .none) z)->Pk (ah 2) (ah 4) (ah 3) [some (D.v (.int d)),some (D.v (.list (fs.map dN))),some (D.m p),some (D.v (dN f)),some (D.v (.int (r:Nat)))] Z K:=fun hn K kk=>by
   rw[Tj]
   walk_at "rn"
   exact⟨r,dN f,ms.map dN,rfl,rfl,hm,by rw[length_map];exact rl,by rw[length_map];omega,kk _ (fin hn)⟩
  by_cases c:r=ms.length
  ·rw[if_pos (decide_eq_true ∅)]
   exact put (fun m e=>by rw[getElem?_eq_none ∅] at e;cases e) _ fun z h=>h
  ·rw[if_neg (by simp;omega)]
   have rl':r<ms.length:=by omega
   have er:ms[r]? = some ms[r]:=getElem?_eq_getElem rl'
   rw[xN er]
   dsimp only
   rw[FZ]
   dsimp only
   by_cases cf:ms[r]=f
   ·rw[if_neg (by simp[cf])]
    refine⟨_,_,ms,rfl,sb,hm,hr,fun x=>?_,∅⟩
    rw[tk,mem_append,mem_singleton,hms]
    constructor
    ·exact .inl
    ·rintro (h|rfl)
     ·exact h
     ·rw[<- hms,<- cf];exact getElem_mem _
   ·rw[if_pos (by simp[cf])]
    exact put (fun m e=>by rw[er] at e;cases e;exact cf) _ fun z h=>h
 ·rintro ρ Z ⟨r3,r4,ms,rfl,sb,hm,hr,hms,lm⟩
  rw[length_map,take_length] at hms
  exact q p ms Z hp sb hm hr hms
theorem zh(h:ue ds U Qd):j0 ‹Qd› (aK ["d","marks","x","low","high","middle"] ds) U:=by
 obtain⟨d,p,ms,x,rfl,hd,hp,gm,ox,bx,hr,hl,q⟩:=h
 unfold j0
 walk_at "rn"
 rw[hp]
 dsimp only
 rw[Ji,length_map]
 refine⟨fun n ρ Z=>∃(lo hi:Nat) (r5:Option D),ρ=[some (.v (.int d)),some (.m p),some (.v (dN x)),some (.v (.int (lo:Nat))),some (.v (.int (hi:Nat))),r5]/\Z=U/\n=hi-lo/\lo<=hi/\hi<=ms.length/\(∀i m,i<lo->ms[i]? = some m->dif d x m=1)/\(∀i m,hi<=i->ms[i]? = some m->¬ dif d x m=1),
  ⟨_,0,ms.length,none,rfl,rfl,rfl,zero_le _,Nat.le_refl _,fun i m z=>absurd z (not_lt_zero _),fun i m z e=>by rw[getElem?_eq_none z] at e;cases e⟩,?_⟩
 rintro n ρ Z ⟨lo,hi,r5,rfl,rfl,rfl,h1,h2,hb,ha⟩
 walk_at "rn"
 by_cases c:lo<hi
 ·rw[if_pos (by simpa using c)]
  have hm:(lo+hi) / 2<ms.length:=by omega
  have em:ms[(lo+hi) / 2]? = some ms[(lo+hi) / 2]:=getElem?_eq_getElem hm
  have ef:(((lo:Nat):Int)+((hi:Nat):Int)).fdiv 2=(((lo+hi) / 2:Nat):Int):=by
   have:((lo:Nat):Int)+((hi:Nat):Int)=((lo+hi:Nat):Int):=by omega
   rw[this]
   exact Qa (lo+hi) 2
  rw[hp,ef]
  dsimp only
  rw[xN em]
  generalize ms[(lo+hi) / 2]=mm at em
  obtain⟨omm,bmm⟩:=gm mm (mem_of_getElem? em)
  refine⟨B4 ⋯ (Sz.of (n:=2) ⋯) ⋯,d,x,mm,rfl,hd,bx,bmm,?_⟩
  dsimp only
  by_cases cc:dif d x mm=1
  ·rw[if_pos (decide_eq_true cc)]
   refine⟨_,?_,(lo+hi) / 2+1,hi,some (.v (.int (((lo+hi) / 2:Nat):Int))),by simp,rfl,rfl,∅,h2,fun i m z e=>?_,ha⟩
   ·omega
   ·rcases lt_or_eq_of_le (le_of_lt_succ z) with z|z
    ·obtain⟨om,_⟩:=gm m (mem_of_getElem? e)
     exact lR hd ox omm om cc (Ca hr z e em)
    ·rw[z,em] at e
     cases e
     exact cc
  ·rw[if_neg (by simpa using cc)]
   refine⟨_,?_,lo,(lo+hi) / 2,_,rfl,rfl,rfl,∅,∅,hb,fun i m z e f=>cc ?_⟩
   ·omega
   ·rcases lt_or_eq_of_le z with z|z
    ·obtain⟨om,_⟩:=gm m (mem_of_getElem? e)
     exact lR hd ox om omm f (Ca hr z em e)
    ·rw[<- z,em] at e
     cases e
     exact f
 ·rw[if_neg (by simpa using c)]
  obtain rfl:lo=hi:=by omega
  exact q lo h2 hb ha
end
noncomputable def numAt:PyData->N3
 |.tuple [.int a,.int b,.int c]=>⟨a,b,c⟩
 |_=>ay
noncomputable def xM(t:PyData):Prop:=Few t/\∀x,t=dN x->Bd 4400 x
noncomputable def Qu(t:PyData):Prop:=∀a b c e,t = .tuple [a,b,c,e]->xM a/\xM b/\xM c/\xM e
noncomputable def ma(d:Int):PyData->Bool
 |.tuple [a,b,c,e]=>(isNum a&&(isNum b&&(decide (0<=sg d (numAt a).a (numAt a).b)&&decide (0<=sg d (numAt b).a (numAt b).b))))&&(dG d c&&dG d e)
 |_=>false
noncomputable def D6:DSp:=fun ds U Q=>∃(d:Int) (t:PyData),ds=[.v (.int d),.v t]/\aH d/\Qu t/\Q (.v (.bool (ma d t))) U
theorem Hb{ds:List D}{U:Mu}{Q:DK}(h:D6 ds U Q):ds.length=2:=by obtain⟨_,_,rfl,_⟩:=h;rfl
noncomputable def Me(t:PyData):Prop:=∀a b c,t = .tuple [a,b,c]->xM a/\xM b/\∀ts,c = .tuple ts->ts.length<=1000/\∀x∈ts,Qu x
noncomputable def uF(d:Int):PyData->Bool
 |.tuple [a,b,.tuple ts]=>dG d a&&(dG d b&&(decide (1<=ts.length)&&(decide (ts.length<=60)&&ts.all (ma d))))
 |_=>false
noncomputable def xh:DSp:=fun ds U Q=>∃(d:Int) (t:PyData),ds=[.v (.int d),.v t]/\aH d/\Me t/\Q (.v (.bool (uF d t))) U
theorem Fv{ds:List D}{U:Mu}{Q:DK}(h:xh ds U Q):ds.length=2:=by obtain⟨_,_,rfl,_⟩:=h;rfl
noncomputable def rK:DTS:=
 (aL (cA (qu (gC (dB (GC "tuple" (ah 1)))) (dB (dOp (cU true) (dCB cR (ag (ah 1) ar)) (dC (.int 4))))) (bo (dC (.bool false))) bG)
 (aL (bc (ah 1) (cC 4 (aC (aq 2) (aC (aq 3) (aC (aq 4) (aC (aq 5) cF))))))
 (aL (cA (qu (gC (dB (ax vb (ag (ah 2) ar)))) (qu (gC (dB (ax vb (ag (ah 3) ar)))) (qu (dB (dOp rLt (ax kJ (ag (ah 0) (ag (ah 2) ar))) (dC (.int 0)))) (dB (dOp rLt (ax kJ (ag (ah 0) (ag (ah 3) ar))) (dC (.int 0))))))) (bo (dC (.bool false))) bG)
 (bo (nY (ax iN (ag (ah 0) (ag (ah 4) ar))) (ax iN (ag (ah 0) (ag (ah 5) ar))))))))
noncomputable def pE:DTS:=
 (aL (cA (qu (gC (dB (GC "tuple" (ah 1)))) (dB (dOp (cU true) (dCB cR (ag (ah 1) ar)) (dC (.int 3))))) (bo (dC (.bool false))) bG)
 (aL (bc (ah 1) (cC 3 (aC (aq 2) (aC (aq 3) (aC (aq 4) cF)))))
 (aL (cA (qu (gC (dB (ax iN (ag (ah 0) (ag (ah 2) ar))))) (gC (dB (ax iN (ag (ah 0) (ag (ah 3) ar)))))) (bo (dC (.bool false))) bG)
 (aL (cA (qu (gC (dB (GC "tuple" (ah 4)))) (qu (dB (dOp rLt (dCB cR (ag (ah 4) ar)) (dC (.int 1)))) (dB (dOp rGt (dCB cR (ag (ah 4) ar)) (dC (.int 60)))))) (bo (dC (.bool false))) bG)
 (bo (dCB FN (ag (pA [none,some 0] (n5 (ah 4)) (aq 0) iI (ax D6 (ag (ah 1) (ag (ah 0) ar)))) ar)))))))
section
variable {U:Mu}{Qd:DK}{ds:List D}
theorem BA{d:Int}{xs:List PyData}(h:xs.length≠4):ma d (.tuple xs)=false:=by
 match xs,h with
 |[],_=>rfl
 |[_],_=>rfl
 |[_,_],_=>rfl
 |[_,_,_],_=>rfl
 |[_,_,_,_],h=>exact absurd rfl h
 |_::_::_::_::_::_,_=>rfl
theorem Bq{d:Int}{p:PyData}(h:¬ ∃xs,p = .tuple xs):ma d p=false:=by cases p<;>first|rfl|exact absurd ⟨_,rfl⟩ h
theorem zX{p:PyData}(h:¬ ∃xs,p = .tuple xs):isT "tuple" p=false:=by cases p<;>first|rfl|exact absurd ⟨_,rfl⟩ h
theorem JS{α:Type}{xs:List α}(hl:xs.length=4):∃a b c d,xs=[a,b,c,d]:=by
 match xs,hl with
 |[a,b,c,d],_=>exact⟨a,b,c,d,rfl⟩
theorem Cd{d:Int}{a b c e:PyData}:ma d (.tuple [a,b,c,e])=((isNum a&&(isNum b&&(decide (0<=sg d (numAt a).a (numAt a).b)&&decide (0<=sg d (numAt b).a (numAt b).b))))&&(dG d c&&dG d e)):=rfl
theorem xD{x:N3}:numAt (dN x)=x:=rfl
theorem Hz(h:D6 ds U Qd):rK ‹Qd› (aK ["d","thing","x","y","width","height"] ds) U:=by
 obtain⟨d,t,rfl,hd,ht4,q⟩:=h
 unfold rK
 walk_at "rn"
 by_cases ht:∃xs,t = .tuple xs
 ·obtain⟨xs,rfl⟩:=ht
  rw[if_neg (by rw[show isT "tuple" (.tuple xs)=true from rfl];decide)]
  walk_at "rn"
  by_cases l4:xs.length=4
  ·obtain⟨a,b,c,e,rfl⟩:=JS l4
   rw[if_neg (by simp)]
   obtain⟨pa,pb,pc,pe⟩:=ht4 a b c e rfl
   rw[Cd] at q
   walk_at "rn"
   refine⟨trivial,a,rfl,pa.1,?_⟩
   dsimp only
   cases na:isNum a with
   |false=>rw[if_pos ⋯];rw[na] at q;exact q
   |true=>
    rw[if_neg ⋯]
    rw[na,Bool.true_and] at q
    refine⟨b,rfl,pb.1,?_⟩
    dsimp only
    cases nb:isNum b with
    |false=>rw[if_pos ⋯];rw[nb] at q;exact q
    |true=>
     rw[if_neg ⋯]
     rw[nb,Bool.true_and] at q
     obtain⟨x,rfl,ox⟩:=il na
     obtain⟨y,rfl,oy⟩:=il nb
     rw[xD,xD] at q
     refine⟨d,x,rfl,hd,(pa.2 x rfl).mono ⋯,?_⟩
     walk_at "rn"
     by_cases cx:0<=sg d x.a x.b
     ·rw[if_neg (by simp;omega)]
      rw[decide_eq_true cx,Bool.true_and] at q
      refine⟨d,y,rfl,hd,(pb.2 y rfl).mono ⋯,?_⟩
      walk_at "rn"
      by_cases cy:0<=sg d y.a y.b
      ·rw[if_neg (by simp;omega)]
       rw[decide_eq_true cy,Bool.true_and] at q
       refine⟨d,c,rfl,hd,pc.1,fun x e=>(pc.2 x e).mono ⋯,?_⟩
       dsimp only
       cases ac:dG d c with
       |false=>rw[if_neg ⋯];rw[ac] at q;exact q
       |true=>
        rw[if_pos rfl]
        rw[ac,Bool.true_and] at q
        exact⟨d,e,rfl,hd,pe.1,fun x e=>(pe.2 x e).mono ⋯,q⟩
      ·rw[if_pos (by simp;omega)]
       rw[decide_eq_false cy] at q
       exact q
     ·rw[if_pos (by simp;omega)]
      rw[decide_eq_false cx] at q
      exact q
  ·rw[if_pos (by simp;omega)]
   rw[BA l4] at q
   exact q
 ·rw[if_pos (by rw[zX ht];rfl)]
  rw[Bq ht] at q
  exact q
theorem BY{d:Int}{xs:List PyData}(h:xs.length≠3):uF d (.tuple xs)=false:=by
 match xs,h with
 |[],_=>rfl
 |[_],_=>rfl
 |[_,_],_=>rfl
 |[_,_,_],h=>exact absurd rfl h
 |_::_::c::_::_,_=>cases c<;>rfl
theorem Bs{d:Int}{p:PyData}(h:¬ ∃xs,p = .tuple xs):uF d p=false:=by cases p<;>first|rfl|exact absurd ⟨_,rfl⟩ h
theorem El{d:Int}{a b c:PyData}(h:¬ ∃ts,c = .tuple ts):uF d (.tuple [a,b,c])=false:=by cases c<;>first|rfl|exact absurd ⟨_,rfl⟩ h
theorem FC{α:Type}{xs:List α}(hl:xs.length=3):∃a b c,xs=[a,b,c]:=by
 match xs,hl with
 |[a,b,c],_=>exact⟨a,b,c,rfl⟩
theorem Bp{f:PyData->Bool}:∀(xs:List PyData),dj (xs.filterMap fun x=>some (.bool (f x)))=some (xs.map f)
 |[]=>rfl
 |x::xs=>by
  rw[filterMap_cons]
  simp only[dj,Bp xs,map_some,map_cons]
theorem EZ(h:xh ds U Qd):pE ‹Qd› (aK ["d","thing","width","height","tiles"] ds) U:=by
 obtain⟨d,t,rfl,hd,ft,q⟩:=h
 unfold pE
 walk_at "rn"
 by_cases ht:∃xs,t = .tuple xs
 ·obtain⟨xs,rfl⟩:=ht
  rw[if_neg (by rw[show isT "tuple" (.tuple xs)=true from rfl];decide)]
  walk_at "rn"
  by_cases l3:xs.length=3
  ·obtain⟨a,b,c,rfl⟩:=FC l3
   rw[if_neg (by simp)]
   obtain⟨pa,pb,pc⟩:=ft a b c rfl
   walk_at "rn"
   have qf:(∃ts,c = .tuple ts)\/Qd (.v (.bool false)) U:=by
    by_cases hc:∃ts,c = .tuple ts
    ·exact .inl hc
    ·rw[El hc] at q;exact .inr q
   have q3:∀ts,c = .tuple ts->Qd (.v (.bool (dG d a&&(dG d b&&(decide (1<=ts.length)&&(decide (ts.length<=60)&&ts.all (ma d))))))) U:=fun ts e=>by subst e;exact q
   refine⟨trivial,d,a,rfl,hd,pa.1,fun x e=>(pa.2 x e).mono ⋯,?_⟩
   dsimp only
   cases aa:dG d a with
   |false=>
    rw[if_pos ⋯]
    rcases qf with ⟨ts,e⟩|qf
    ·have:=q3 ts e;rw[aa] at this;exact this
    ·exact qf
   |true=>
    rw[if_neg ⋯]
    refine⟨d,b,rfl,hd,pb.1,fun x e=>(pb.2 x e).mono ⋯,?_⟩
    dsimp only
    cases ab:dG d b with
    |false=>
     rw[if_pos ⋯]
     rcases qf with ⟨ts,e⟩|qf
     ·have:=q3 ts e;rw[aa,ab] at this;exact this
     ·exact qf
    |true=>
     rw[if_neg ⋯]
     by_cases hc:∃ts,c = .tuple ts
     ·obtain⟨ts,rfl⟩:=hc
      have q4:=q3 ts rfl
      rw[aa,ab,Bool.true_and,Bool.true_and] at q4
      rw[if_neg (by rw[show isT "tuple" (.tuple ts)=true from rfl];decide)]
      walk_at "rn"
      by_cases c1:1<=ts.length
      ·rw[if_neg (by simp;omega)]
       rw[decide_eq_true c1,Bool.true_and] at q4
       by_cases c2:ts.length<=60
       ·rw[if_neg (by simp;omega)]
        rw[decide_eq_true c2,Bool.true_and] at q4
        obtain⟨tl,gt⟩:=pc ts rfl
        refine⟨tl,fun x=>some (.bool (ma d x)),fun x hx Z _=>⟨⟨trivial,trivial⟩,d,x,rfl,hd,gt x hx,rfl,rfl⟩,?_⟩
        rw[Bp]
        dsimp only
        have ea:(ts.map (ma d)).all id=ts.all (ma d):=by simp[List.all_map]
        rw[ea]
        exact q4
       ·rw[if_pos (by simp;omega)]
        rw[decide_eq_false c2] at q4
        exact q4
      ·rw[if_pos (by simp;omega)]
       rw[decide_eq_false c1] at q4
       exact q4
     ·rw[if_pos (by rw[zX hc];rfl)]
      rw[El hc] at q
      exact q
  ·rw[if_pos (by simp;omega)]
   rw[BY l3] at q
   exact q
 ·rw[if_pos (by rw[zX ht];rfl)]
  rw[Bs ht] at q
  exact q
end
structure Tl where
 x:N3
 y:N3
 w:N3
 h:N3
noncomputable def tlD(t:Tl):PyData:=.tuple [dN t.x,dN t.y,dN t.w,dN t.h]
structure US(d:Int)(t:Tl):Prop where
 ox:Ok t.x
 oy:Ok t.y
 ow:Ok t.w
 oh:Ok t.h
 bx:Bd 2100 t.x
 by_:Bd 2100 t.y
 bw:Bd 2100 t.w
 bh:Bd 2100 t.h
noncomputable def vk(t:Tl):PyData:=.tuple [dN t.x,dN (plus t.x t.w),dN t.y,dN (plus t.y t.h)]
noncomputable def pS:DSp:=fun ds U Q=>∃(d:Int) (t:Tl),ds=[.v (tlD t)]/\US d t/\Q (.v (vk t)) U
theorem AW{ds:List D}{U:Mu}{Q:DK}(h:pS ds U Q):ds.length=1:=by obtain⟨_,_,rfl,_⟩:=h;rfl
noncomputable def gK(ms:List N3)(e:N3):Bool:=decide (ms.head? = some ay)&&decide (ms.getLast? = some e)
noncomputable def tP:DSp:=fun ds U Q=>∃(ms:List N3) (e:N3),ds=[.v (.list (ms.map dN)),.v (dN e)]/\ms≠[]/\Q (.v (.bool (gK ms e))) U
theorem E4{ds:List D}{U:Mu}{Q:DK}(h:tP ds U Q):ds.length=2:=by obtain⟨_,_,rfl,_⟩:=h;rfl
noncomputable def nF:DTS:=
 (aL (bc (ah 0) (cC 4 (aC (aq 1) (aC (aq 2) (aC (aq 3) (aC (aq 4) cF))))))
 (bo (bH (ag (ah 1) (ag (ax ig (ag (ah 1) (ag (ah 3) ar))) (ag (ah 2) (ag (ax ig (ag (ah 2) (ag (ah 4) ar))) ar)))))))
noncomputable def i6:DTS:=
 (bo (nY (dOp (cU false) (dOp aF (ah 0) (dC (.int 0))) (dC (.tuple [.int 0,.int 0,.int 1]))) (dOp (cU false) (dOp aF (ah 0) (yg (dC (.int 1)))) (ah 1))))
section
variable {U:Mu}{Qd:DK}{ds:List D}
theorem Ea(h:pS ds U Qd):nF ‹Qd› (aK ["tile","x","y","width","height"] ds) U:=by
 obtain⟨d,t,rfl,o,q⟩:=h
 unfold nF tlD
 walk_at "rn"
 refine⟨trivial,t.x,t.w,rfl,o.ox,o.ow,o.bx.mono ⋯,o.bw.mono ⋯,?_⟩
 walk_at "rn"
 refine⟨t.y,t.h,rfl,o.oy,o.oh,o.by_.mono ⋯,o.bh.mono ⋯,?_⟩
 walk_at "rn"
 exact q
theorem tY{ms:List N3}{l:N3}(h:ms.getLast? = some l):atI (ms.map dN) (-1)=some (dN l):=by
 obtain⟨ys,rfl⟩:∃ys,ms=ys++[l]:=by
  have hn:ms≠[]:=fun e=>by rw[e] at h;cases h
  refine⟨ms.dropLast,?_⟩
  rw[List.getLast?_eq_getLast hn] at h
  have e:=List.dropLast_concat_getLast hn
  rw[Option.some.inj h] at e
  exact e.symm
 rw[map_append]
 unfold atI ixN
 have e:(ys.map dN++[dN l]).length=ys.length+1:=by simp
 rw[show List.map dN [l]=[dN l] from rfl,e]
 split
 ·omega
 ·rw[if_pos ∅]
  have z:(-1+((ys.length+1:Nat):Int)).toNat=ys.length:=by omega
  simp only[bind_some]
  rw[z]
  simp
theorem w9(h:tP ds U Qd):i6 ‹Qd› (aK ["marks","end"] ds) U:=by
 obtain⟨ms,e,rfl,hn,q⟩:=h
 unfold i6
 obtain⟨l,hl⟩:∃l,ms.getLast? = some l:=⟨ms.getLast hn,List.getLast?_eq_getLast hn⟩
 obtain⟨f,r,rfl⟩:∃f r,ms=f::r:=by
  cases ms with
  |nil=>exact absurd rfl hn
  |cons f r=>exact⟨f,r,rfl⟩
 walk_at "rn"
 have er:gK (f::r) e=(decide (f=⟨0,0,1⟩)&&decide (l=e)):=by
  unfold gK
  rw[hl]
  congr 1
  ·rw[List.head?_cons]
   simp only[Option.some.injEq]
   rfl
  ·simp only[Option.some.injEq]
 rw[er] at q
 by_cases c:f=⟨0,0,1⟩
 ·rw[if_pos (decide_eq_true c),<- show (f::r).map dN=dN f::r.map dN from rfl,tY hl]
  dsimp only
  rw[FZ,false_xor]
  rw[decide_eq_true c,Bool.true_and] at q
  exact q
 ·rw[if_neg (by simpa using c)]
  rw[decide_eq_false c] at q
  exact q
end
section
variable {U:Mu}{d:D}{Q:DK}
theorem JP{a b c f g h k l m n n11}{o:Rho}:ah 11 (a::b::c::f::g::h::k::l::m::n::n11::some d::o) U Q=Q d U:=propext Iff.rfl
theorem Ih{a b c f g h k l m n n11 n12}{o:Rho}:ah 12 (a::b::c::f::g::h::k::l::m::n::n11::n12::some d::o) U Q=Q d U:=propext Iff.rfl
theorem IJ{a b c f g h k l m n n11 n12 n13}{o:Rho}:ah 13 (a::b::c::f::g::h::k::l::m::n::n11::n12::n13::some d::o) U Q=Q d U:=propext Iff.rfl
theorem IY{a b c f g h k l m n n11 n12 n13 n14}{o:Rho}:ah 14 (a::b::c::f::g::h::k::l::m::n::n11::n12::n13::n14::some d::o) U Q=Q d U:=propext Iff.rfl
theorem JG{to te:DTE}{ρ:Rho}{U:Mu}{Q:DK}:HY to te ρ U Q=to ρ U fun x ad=>match x with
 |.m l=>te ρ ad fun y am=>(match y,am l with
  |.v (.int i),some xs=>(0<=i/\i<1000)/\∃d,xs[i.toNat]? = some d/\Q (.v d) (aR am l (xs.eraseIdx i.toNat))
  |_,_=>False)
 |_=>False:=propext Iff.rfl
end
noncomputable def Ck(x:N3):List Int:=[x.a,x.b,x.c]
theorem NL{x y:N3}(h:Ck x=Ck y):x=y:=by
 cases x;cases y
 unfold Ck at h
 simp only[List.cons.injEq,and_true] at h
 obtain⟨rfl,rfl,rfl⟩:=h
 rfl
theorem Cz{d:Int}{x:N3}(hd:aH d):dif d x x≠1:=fun h=>by
 have:=dif_neg (x:=x) (y:=x) hd
 omega
theorem mM{d:Int}{P:List N3}(hd:aH d)(h:dh d P):P.Nodup:=by
 unfold List.Nodup
 refine List.Pairwise.imp (fun {a b} z (e:a=b)=>?_) h
 subst e
 exact Cz hd z
structure uQ(d:Int)(P fs:List N3):Prop where
 up:dh d P
 mem:∀x,x∈P↔x∈fs
noncomputable def ents(P:List N3):List (List Int×PyData):=P.zipIdx.map fun x=>(Ck x.1,.int (x.2:Nat))
theorem KL{P:List N3}{x:N3}:ents (P++[x])=ents P++[(Ck x,.int (P.length:Nat))]:=by
 unfold ents
 rw[List.zipIdx_append,map_append]
 simp
noncomputable def book(P:List N3):List (List Int×PyData):=putAll (ents P)
theorem Ke{P:List N3}{x:N3}:book (P++[x])=jg (book P) (Ck x) (.int (P.length:Nat)):=by unfold book;rw[KL,putAll_snoc]
theorem snoc_ind{α:Type}{p:List α->Prop}(h0:p [])(h1:∀l x,p l->p (l++[x]))(l:List α):p l:=by
 rw[<- List.reverse_reverse l]
 generalize l.reverse=r
 induction r with
 |nil=>exact h0
 |cons a r ih=>rw[List.reverse_cons];exact h1 _ _ ih
theorem p8{x:N3}(P:List N3):P.Nodup->x∈P->cq (book P) (Ck x)=some (.int (P.idxOf x:Nat)):=by
 refine snoc_ind (p:=fun P=>P.Nodup->x∈P->cq (book P) (Ck x)=some (.int (P.idxOf x:Nat))) (fun _ h=>absurd h not_mem_nil) (fun P y ih hn hx=>?_) P
 rw[Ke,KJ]
 have hn':=List.nodup_append.mp hn
 rw[List.idxOf_append]
 by_cases e:x=y
 ·subst e
  have hxp:x ∉ P:=fun m=>hn'.2.2 x m x mem_cons_self rfl
  rw[if_pos rfl,if_neg hxp,List.idxOf_cons_self,Nat.zero_add]
 ·have hxp:x∈P:=by
   rcases List.mem_append.mp hx with m|m
   ·exact m
   ·exact absurd (List.mem_singleton.mp m) e
  rw[if_neg (fun z=>e (NL z)),if_pos hxp,ih hn'.1 hxp]
noncomputable def HZ:PyData->Option (List Int×PyData)
 |.tuple [i,.tuple [.int a,.int b,.int c]]=>some ([a,b,c],i)
 |_=>none
theorem BH(P:List N3):(ke 0 (P.map dN)).filterMap HZ=ents P:=by
 unfold ents
 have h:∀j,(ke j (P.map dN)).filterMap HZ=(P.zipIdx j).map fun x=>(Ck x.1,PyData.int (x.2:Nat)):=by
  induction P with
  |nil=>intro j;rfl
  |cons x P ih=>
   intro j
   rw[map_cons,List.zipIdx_cons,map_cons,<- ih]
   rfl
 exact h 0
theorem FH{P:List N3}{x:PyData}(h:x∈ke 0 (P.map dN)):∃(i:Nat) (m:N3),x = .tuple [.int (i:Nat),dN m]/\m∈P:=by
 have k:∀j,x∈ke j (P.map dN)->∃(i:Nat) (m:N3),x = .tuple [.int (i:Nat),dN m]/\m∈P:=by
  clear h
  induction P with
  |nil=>intro j h;exact absurd h not_mem_nil
  |cons y P ih=>
   intro j h
   rw[map_cons] at h
   rcases List.mem_cons.mp h with rfl|h
   ·exact⟨j,y,rfl,mem_cons_self⟩
   ·obtain⟨i,m,e,hm⟩:=ih _ h
    exact⟨i,m,e,mem_cons_of_mem _ hm⟩
 exact k 0 h
theorem Gw{xs:List PyData}:(ke 0 xs).length=xs.length:=by
 have h:∀j,(ke j xs).length=xs.length:=by
  induction xs with
  |nil=>intro j;rfl
  |cons y P ih=>intro j;show (ke (j+1) P).length+1=_;rw[ih];rfl
 exact h 0
noncomputable def fI(P Q:List N3)(t:Tl):GR.Bx:=⟨P.idxOf t.x,P.idxOf (plus t.x t.w),Q.idxOf t.y,Q.idxOf (plus t.y t.h)⟩
structure OnM(P Q:List N3)(t:Tl):Prop where
 l:t.x∈P
 r:plus t.x t.w∈P
 b:t.y∈Q
 t:plus t.y t.h∈Q
noncomputable def fR(x:Nat×Nat):List Int:=[(x.1:Nat),(x.2:Nat)]
theorem Gj{x y:Nat×Nat}(h:fR x=fR y):x=y:=by
 unfold fR at h
 simp only[List.cons.injEq,and_true,Int.natCast_inj] at h
 exact Prod.ext h.1 h.2
theorem zo{x:Nat×Nat}{l:List (Nat×Nat)}:fR x∈l.map fR↔x∈l:=by
 rw[mem_map]
 constructor
 ·rintro ⟨y,h,e⟩;exact Gj e▸h
 ·intro h;exact⟨x,h,rfl⟩
theorem Bn{α β:Type}{f:α->List β}{l:List α}{i:Nat}{x:α}(h:l[i]? = some x):(l.take (i+1)).flatMap f=(l.take i).flatMap f++f x:=by
 rw[take_succ,h,List.flatMap_append]
 simp
theorem Fh{α β:Type}{f:α->List β}{l:List α}{i:Nat}:(l.take i).flatMap f <+: l.flatMap f:=by
 conv=>rhs;rw[<- List.take_append_drop i l,List.flatMap_append]
 exact List.prefix_append _ _
theorem Lr{a b i:Nat}(h:i<b-a):(GR.run a b)[i]? = some (a+i):=by
 unfold GR.run
 rw[getElem?_map,List.getElem?_range h]
 rfl
local macro_rules|`(tactic| walk_at "rb")=>mkW "JU P9 NG ↓Ub ↓l_t ↓l_f l_T l_F Uh SM ↓PX d5 decide_true decide_false Bool.xor_true true_xor ↓Dq ↓DB ↓Ee ↓zz ↓Du ↓Dg ↓CO ↓DH ↓DN ↓CD ↓xu ↓q_c ↓Uk ↓q_B ↓OE ↓Jt ↓Jv ↓Lg ↓Qk ↓Dr ↓Mv ↓Cg ↓TY ↓Bj ↓vj ↓Fn ↓Fe ↓Ek ↓FX ↓GD ↓EW ↓Gu ↓JL ↓xV ↓CQ ↓Ew ↓yE ↓zp ↓zJ ↓Eo ↓yZ ↓wL ↓Jy ↓Iq ↓Je ↓DQ ↓DU ↓N5 ↓sX ↓Cv ↓JO ↓IK ↓SW ↓yy ↓C4 ↓Em ↓Dk ↓IV ↓OA ↓CU ↓JQ ↓IH ↓qm ↓CI ↓xw ↓Cu ↓Dp ↓Qf ↓IL ↓CP ↓Bl ↓Gy ↓Cs ↓Qr ↓xq ↓NQ ↓Jr ↓JN ↓CL ↓tD ↓xA ↓tW ↓sH ↓uP ↓sU ↓JB LY C1 Dy Jg Ip Jq bind_none bind_some join_some List.getElem?_cons_zero List.getElem?_cons_succ aK NS HU GS HV FZ qM ze yz Bf F8 map_cons map_nil List.append List.replicate length_cons length_nil Nat.reduceAdd Nat.reduceSub nil_append cons_append set_cons_zero set_cons_succ map_some Bool.not_true Bool.not_false false_eq_true Bool.true_eq_false xor_false false_xor ↓JP ↓Ih ↓IJ ↓IY ↓JG ↓FP ↓EI ↓Nw ↓P0 ↓Lp ↓F9"
noncomputable def Mz(P Q:List N3)(ts:List Tl):Prop:=P.Nodup/\Q.Nodup/\P≠[]/\Q≠[]/\P.length<=900/\Q.length<=900/\ts.length<=900/\(∀t∈ts,OnM P Q t)/\(P.length-1)*(Q.length-1)<=9000
noncomputable def vq:DSp:=fun ds U K=>∃(P Q:List N3) (ts:List Tl),ds=[.v (.list (ts.map vk)),.v (.list (P.map dN)),.v (.list (Q.map dN))]/\Mz P Q ts /\
 ∀Z,hZ U Z->K (.v (.bool (GR.vg (ts.map (fI P Q)) (P.length-1) (Q.length-1)))) Z
noncomputable def yL:DSp:=fun ds U K=>∃(P Q:List N3) (ts:List Tl),ds=[.v (.list (ts.map vk)),.v (.list (P.map dN)),.v (.list (Q.map dN))]/\Mz P Q ts /\
 K (.v (.bool (GR.vg (ts.map (fI P Q)) (P.length-1) (Q.length-1)))) U
theorem A0{ds:List D}{U:Mu}{Q:DK}(h:vq ds U Q):ds.length=3:=by obtain⟨_,_,_,rfl,_⟩:=h;rfl
theorem w5{ds:List D}{U:Mu}{Qd:DK}(h:yL ds U Qd):vq ds U (frz U Qd):=by
 obtain⟨P,Q,ts,rfl,pre,q⟩:=h
 exact⟨P,Q,ts,rfl,pre,fun Z sb=>⟨sb,q⟩⟩
noncomputable def pU:DSp:=fun ds U Q=>∃(d:Int) (fs:List N3),ds=[.v (.int d),.v (.list (fs.map dN))]/\aH d/\(∀m∈fs,Ok m/\Bd 4400 m)/\fs.length<=1000 /\
 ∀ms,uQ d ms fs->Q (.v (.list (ms.map dN))) U
theorem vI{ds:List D}{U:Mu}{Qd:DK}(h:pU ds U Qd):xW ds U (frz U Qd):=by
 obtain⟨d,fs,rfl,hd,g,hl,q⟩:=h
 exact⟨d,fs,rfl,hd,g,hl,fun p ms Z hp sb hm hr hms=>⟨⟨hp,sb⟩,_,hm,q ms ⟨hr,hms⟩⟩⟩
noncomputable def jL:DTS:=
 (aL (bc (Ae [none,none] (DR (ag (ah 1) ar)) (cC 2 (aC (aq 0) (aC (aq 1) cF))) iI (ah 1) (ah 0)) (aq 3))
 (aL (bc (Ae [none,none] (DR (ag (ah 2) ar)) (cC 2 (aC (aq 0) (aC (aq 1) cF))) iI (ah 1) (ah 0)) (aq 4))
 (aL (bc CF (aq 5))
 (aL (rH (fS (ah 0)) (cC 4 (aC (aq 6) (aC (aq 7) (aC (aq 8) (aC (aq 9) cF))))) (rH (zY (ag (J8 (ah 3) (ah 6)) (ag (J8 (ah 3) (ah 7)) ar))) (aq 10) (rH (zY (ag (J8 (ah 4) (ah 8)) (ag (J8 (ah 4) (ah 9)) ar))) (aq 11) (aL (cA (dB (dOp (G3 false) (bH (ag (ah 10) (ag (ah 11) ar))) (ah 5))) (bo (dC (.bool false))) bG)
 (j5 (Mr (ah 5) (bH (ag (ah 10) (ag (ah 11) ar)))))))))
 (bo (dOp (cU false) (dCB Lv (ag (ah 5) ar)) (bU (jY (dCB cR (ag (ah 1) ar)) (dC (.int 1))) (jY (dCB cR (ag (ah 2) ar)) (dC (.int 1))))))))))
section
variable {U:Mu}{Qd:DK}{ds:List D}
structure BL(U:Mu)(P Q:List N3)(pc pr ps:Addr)(done:List (Nat×Nat))(Z:Mu):Prop where
 sub:hZ U Z
 nc:U.b pc=none
 nr:U.b pr=none
 ns:U.b ps=none
 c:Z.b pc=some (.dict (book P))
 r:Z.b pr=some (.dict (book Q))
 s:Z.b ps=some (.set (done.map fR))
 nodup:done.Nodup
 sc:pc≠ps
 sr:pr≠ps
theorem BL.put{U Z:Mu}{P Q:List N3}{pc pr ps:Addr}{done:List (Nat×Nat)}{x:Nat×Nat}(h:BL U P Q pc pr ps done Z)(hx:x ∉ done):BL U P Q pc pr ps (done++[x]) (bP Z ps (.set (done.map fR++[fR x]))) where
 sub:=h.sub.box h.ns
 nc:=h.nc
 nr:=h.nr
 ns:=h.ns
 c:=by rw[bT h.sc];exact h.c
 r:=by rw[bT h.sr];exact h.r
 s:=by rw[br,map_append];rfl
 nodup:=List.nodup_append.mpr ⟨h.nodup,by simp,fun a ha b hb e=>hx (by rw[List.mem_singleton.mp hb] at e;exact e▸ha)⟩
 sc:=h.sc
 sr:=h.sr
theorem OY{P Q:List N3}{ts:List Tl}(on:∀t∈ts,OnM P Q t):∀q∈ts.map (fI P Q),q.r<=P.length-1/\q.t<=Q.length-1:=fun q hq=>by
 obtain⟨t,ht,rfl⟩:=List.mem_map.mp hq
 have a:=GR.dO (on t ht).r
 have b:=GR.dO (on t ht).t
 show P.idxOf _<=_/\Q.idxOf _<=_
 omega
theorem sub_len{qs:List GR.Bx}{C R:Nat}(hin:∀q∈qs,q.r<=C/\q.t<=R){done:List (Nat×Nat)}(hn:done.Nodup)(hp:∀x∈done,x∈GR.cells qs):done.length<=C*R:=by
 rw[<- GR.tG]
 refine GR.pig hn fun x hx=>?_
 obtain⟨q,hq,h⟩:=GR.jw.mp (hp x hx)
 obtain⟨h1,h2⟩:=hin q hq
 exact GR.bO.mpr ⟨zero_le _,lt_of_lt_of_le h.2.1 h1,zero_le _,lt_of_lt_of_le h.2.2.2 h2⟩
theorem EV{a b:Nat}:(GR.run a b).take (b-a)=GR.run a b:=take_of_length_le (by rw[GR.qe];exact Nat.le_refl _)
theorem xP(h:vq ds U Qd):jL ‹Qd› (aK ["bounds","across","upward","columns","rows","covered","left","right","bottom","top","column","row"] ds) U:=by
 obtain⟨P,Q,ts,rfl,⟨np,nq,p0,q0,lp,lq,lt,on,few⟩,q⟩:=h
 unfold jL
 walk_at "rb"
 rw[JR]
 walk_at "rb"
 refine⟨by rw[Gw,length_map];omega,HZ,?_,?_⟩
 ·intro x hx Z _
  obtain⟨i,m,rfl,_⟩:=FH hx
  walk_at "rb"
  refine⟨trivial,trivial,?_⟩
  rw[if_pos trivial]
  exact⟨trivial,_,_,rfl,rfl,rfl⟩
 rw[BH]
 intro pc hpc
 rw[JR]
 walk_at "rb"
 refine⟨by rw[Gw,length_map];omega,HZ,?_,?_⟩
 ·intro x hx Z _
  obtain⟨i,m,rfl,_⟩:=FH hx
  walk_at "rb"
  refine⟨trivial,trivial,?_⟩
  rw[if_pos trivial]
  exact⟨trivial,_,_,rfl,rfl,rfl⟩
 rw[BH]
 intro pr hpr ps hps
 have rc:pr≠pc:=fun e=>by rw[e,br] at hpr;cases hpr
 have sr:ps≠pr:=fun e=>by rw[e,br] at hps;cases hps
 have sc:ps≠pc:=fun e=>by rw[e,bT rc.symm,br] at hps;cases hps
 have hpr':U.b pr=none:=by rw[bT rc] at hpr;exact hpr
 have hps':U.b ps=none:=by rw[bT sr,bT sc] at hps;exact hps
 rw[mi]
 walk_at "rb"
 have fits:=OY on
 refine⟨fun i ρ Z=>∃r6 r7 r8 r9 r10 r11,ρ=[some (.v (.list (ts.map vk))),some (.v (.list (P.map dN))),some (.v (.list (Q.map dN))),some (.b pc),some (.b pr),some (.b ps),r6,r7,r8,r9,r10,r11]/\BL U P Q pc pr ps (GR.cells ((ts.map (fI P Q)).take i)) Z,
  ⟨_,_,_,_,_,_,rfl,⟨((hZ.refl.box hpc).box hpr').box hps',hpc,hpr',hps',by rw[bT sc.symm,bT rc.symm,br];rfl,by rw[bT sr.symm,br];rfl,by rw[br];rfl,List.nodup_nil,sc.symm,sr.symm⟩⟩,?_,?_⟩
 ·rintro i x ρ Z hx ⟨r6,r7,r8,r9,r10,r11,rfl,st⟩
  obtain⟨t,et,rfl⟩:∃t,ts[i]? = some t/\x=vk t:=by
   rw[getElem?_map] at hx
   cases e:ts[i]? with
   |none=>rw[e] at hx;cases hx
   |some t=>rw[e] at hx;exact⟨t,rfl,(Option.some.inj hx).symm⟩
  have o:=on t (mem_of_getElem? et)
  have eb:(ts.map (fI P Q))[i]? = some (fI P Q t):=by rw[getElem?_map,et];rfl
  have ea:GR.cells ((ts.map (fI P Q)).take (i+1))=GR.cells ((ts.map (fI P Q)).take i)++GR.cellsOf (fI P Q t):=Bn eb
  have pa:GR.cells ((ts.map (fI P Q)).take (i+1)) <+: GR.cells (ts.map (fI P Q)):=Fh
  rw[show vk t = .tuple [dN t.x,dN (plus t.x t.w),dN t.y,dN (plus t.y t.h)] from rfl]
  walk_at "rb"
  refine⟨trivial,?_⟩
  rw[mi]
  walk_at "rb"
  refine⟨pc,_,_,_,rfl,rfl,st.c,p8 P np o.l,pc,_,_,_,rfl,rfl,st.c,p8 P np o.r,?_⟩
  have e1:=GR.dO o.l
  have e2:=GR.dO o.r
  have e3:=GR.dO o.b
  have e4:=GR.dO o.t
  walk_at "rb"
  refine⟨∅,fun c ρ Z=>∃r10 r11,ρ=[some (.v (.list (ts.map vk))),some (.v (.list (P.map dN))),some (.v (.list (Q.map dN))),some (.b pc),some (.b pr),some (.b ps),some (.v (dN t.x)),some (.v (dN (plus t.x t.w))),some (.v (dN t.y)),some (.v (dN (plus t.y t.h))),r10,r11] /\
   BL U P Q pc pr ps (GR.cells ((ts.map (fI P Q)).take i)++((GR.run (P.idxOf t.x) (P.idxOf (plus t.x t.w))).take c).flatMap fun a=>(GR.run (Q.idxOf t.y) (Q.idxOf (plus t.y t.h))).map fun b=>(a,b)) Z,⟨_,_,rfl,by rw[take_zero,List.flatMap_nil,append_nil];exact st⟩,?_,?_⟩
  ·rintro c x ρ am hx2 ⟨s10,s11,rfl,st2⟩
   obtain⟨rfl,hc⟩:=vZ hx2
   have ec:(GR.run (P.idxOf t.x) (P.idxOf (plus t.x t.w)))[c]? = some (P.idxOf t.x+c):=Lr ∅
   have eb2:GR.cells ((ts.map (fI P Q)).take i)++((GR.run (P.idxOf t.x) (P.idxOf (plus t.x t.w))).take (c+1)).flatMap (fun a=>(GR.run (Q.idxOf t.y) (Q.idxOf (plus t.y t.h))).map fun b=>(a,b))=(GR.cells ((ts.map (fI P Q)).take i)++((GR.run (P.idxOf t.x) (P.idxOf (plus t.x t.w))).take c).flatMap fun a=>(GR.run (Q.idxOf t.y) (Q.idxOf (plus t.y t.h))).map fun b=>(a,b))++(GR.run (Q.idxOf t.y) (Q.idxOf (plus t.y t.h))).map fun b=>(P.idxOf t.x+c,b):=by
    rw[Bn ec,append_assoc]
   have pb:GR.cells ((ts.map (fI P Q)).take i)++((GR.run (P.idxOf t.x) (P.idxOf (plus t.x t.w))).take (c+1)).flatMap (fun a=>(GR.run (Q.idxOf t.y) (Q.idxOf (plus t.y t.h))).map fun b=>(a,b)) <+: GR.cells ((ts.map (fI P Q)).take (i+1)):=by
    rw[ea]
    exact (List.prefix_append_right_inj _).mpr Fh
   generalize GR.cells ((ts.map (fI P Q)).take i)++((GR.run (P.idxOf t.x) (P.idxOf (plus t.x t.w))).take c).flatMap (fun a=>(GR.run (Q.idxOf t.y) (Q.idxOf (plus t.y t.h))).map fun b=>(a,b))=pre at st2 eb2
   walk_at "rb"
   rw[mi]
   walk_at "rb"
   refine⟨pr,_,_,_,rfl,rfl,st2.r,p8 Q nq o.b,pr,_,_,_,rfl,rfl,st2.r,p8 Q nq o.t,?_⟩
   walk_at "rb"
   refine⟨∅,fun k ρ Z=>∃r11,ρ=[some (.v (.list (ts.map vk))),some (.v (.list (P.map dN))),some (.v (.list (Q.map dN))),some (.b pc),some (.b pr),some (.b ps),some (.v (dN t.x)),some (.v (dN (plus t.x t.w))),some (.v (dN t.y)),some (.v (dN (plus t.y t.h))),some (.v (.int ((P.idxOf t.x:Nat)+(c:Nat)))),r11] /\
    BL U P Q pc pr ps (pre++((GR.run (Q.idxOf t.y) (Q.idxOf (plus t.y t.h))).take k).map fun b=>(P.idxOf t.x+c,b)) Z,⟨_,rfl,by rw[take_zero,map_nil,append_nil];exact st2⟩,?_,?_⟩
   ·rintro k x ρ bi hx3 ⟨s11,rfl,st3⟩
    obtain⟨rfl,hk⟩:=vZ hx3
    have ek:(GR.run (Q.idxOf t.y) (Q.idxOf (plus t.y t.h)))[k]? = some (Q.idxOf t.y+k):=Lr ∅
    have es:pre++((GR.run (Q.idxOf t.y) (Q.idxOf (plus t.y t.h))).take (k+1)).map (fun b=>(P.idxOf t.x+c,b))=(pre++((GR.run (Q.idxOf t.y) (Q.idxOf (plus t.y t.h))).take k).map fun b=>(P.idxOf t.x+c,b))++[(P.idxOf t.x+c,Q.idxOf t.y+k)]:=by
     rw[take_succ,ek,map_append,append_assoc]
     rfl
    have pk:pre++((GR.run (Q.idxOf t.y) (Q.idxOf (plus t.y t.h))).take (k+1)).map (fun b=>(P.idxOf t.x+c,b)) <+: GR.cells (ts.map (fI P Q)):=by
     refine List.IsPrefix.trans ?_ (pb.trans pa)
     rw[eb2]
     exact (List.prefix_append_right_inj _).mpr (by rw[List.map_take];exact List.take_prefix _ _)
    have pk0:pre++((GR.run (Q.idxOf t.y) (Q.idxOf (plus t.y t.h))).take k).map (fun b=>(P.idxOf t.x+c,b)) <+: GR.cells (ts.map (fI P Q)):=List.IsPrefix.trans (by rw[es];exact List.prefix_append _ _) pk
    rw[es] at pk
    generalize pre++((GR.run (Q.idxOf t.y) (Q.idxOf (plus t.y t.h))).take k).map (fun b=>(P.idxOf t.x+c,b))=done at st3 es pk pk0
    have le:done.length<=9000:=le_trans (sub_len fits st3.nodup fun x hx=>pk0.subset hx) few
    have kc:rQ (.v (.tuple [.int ((P.idxOf t.x:Nat)+(c:Nat)),.int ((Q.idxOf t.y:Nat)+(k:Nat))]))=some (fR (P.idxOf t.x+c,Q.idxOf t.y+k)):=by
     show some _=some _
     unfold fR
     simp only[Int.natCast_add]
    walk_at "rb"
    refine⟨_,ps,_,kc,rfl,st3.s,by show (done.map fR).length<=9800;rw[length_map];omega,fun z=>absurd z ⋯,?_⟩
    walk_at "rb"
    by_cases cc:(P.idxOf t.x+c,Q.idxOf t.y+k)∈done
    ·rw[gP (by show decide _=true;exact decide_eq_true (zo.mpr cc))]
     walk_at "rb"
     have e:GR.vg (ts.map (fI P Q)) (P.length-1) (Q.length-1)=false:=by
      unfold GR.vg
      rw[decide_eq_false,Bool.false_and]
      intro hn
      have:=List.nodup_append.mp (hn.sublist pk.sublist)
      exact this.2.2 _ cc _ mem_cons_self rfl
     rw[e] at q
     exact q _ st3.sub
    ·rw[eN (by show ¬ decide _=true;rw[decide_eq_true_iff,zo];exact cc)]
     walk_at "rb"
     refine⟨ps,_,rfl,st3.s,_,_,kc,st3.s,by rw[length_map];omega,fun z=>cc (zo.mp z),?_⟩
     exact⟨_,rfl,by rw[es];exact st3.put cc⟩
   ·rintro ρ bi ⟨s11,rfl,st3⟩
    rw[lA,show ((Q.idxOf (plus t.y t.h):Nat)-(Q.idxOf t.y:Nat):Int).toNat=Q.idxOf (plus t.y t.h)-Q.idxOf t.y by omega,EV] at st3
    exact⟨_,_,rfl,by rw[eb2];exact st3⟩
  ·rintro ρ bi ⟨s10,s11,rfl,st3⟩
   rw[lA,show ((P.idxOf (plus t.x t.w):Nat)-(P.idxOf t.x:Nat):Int).toNat=P.idxOf (plus t.x t.w)-P.idxOf t.x by omega,EV] at st3
   exact⟨_,_,_,_,_,_,rfl,by rw[ea];exact st3⟩
 ·rintro ρ Z ⟨r6,r7,r8,r9,r10,r11,rfl,st⟩
  rw[take_of_length_le (by rw[length_map,length_map];exact Nat.le_refl _)] at st
  have le:(GR.cells (ts.map (fI P Q))).length<=9000:=le_trans (sub_len fits st.nodup fun x hx=>hx) few
  walk_at "rb"
  refine⟨ps,_,rfl,st.s,by show (List.map fR _).length<=9800;rw[length_map];omega,?_⟩
  walk_at "rb"
  have:=q Z st.sub
  have l1:0<P.length:=List.length_pos_iff.mpr p0
  have l2:0<Q.length:=List.length_pos_iff.mpr q0
  rw[length_map,length_map,show ((P.length:Nat):Int)-1=((P.length-1:Nat):Int) by omega,show ((Q.length:Nat):Int)-1=((Q.length-1:Nat):Int) by omega]
  refine⟨gk (Sz.of (n:=10) ∅) (Sz.of (n:=10) ∅) ⋯,?_⟩
  have e:decide (((Gx (Box.set (List.map fR (GR.cells (List.map (fI P Q) ts)))):Nat):Int)=((P.length-1:Nat):Int)*((Q.length-1:Nat):Int))=GR.vg (List.map (fI P Q) ts) (P.length-1) (Q.length-1):=by
   unfold GR.vg
   rw[decide_eq_true st.nodup,Bool.true_and]
   refine decide_eq_decide.mpr ?_
   show ((List.map fR (GR.cells (List.map (fI P Q) ts))).length:Int)=_↔_
   rw[length_map,<- Int.natCast_mul,Int.natCast_inj]
  rw[e]
  exact this
end
structure wc(d:Int)(t:Tl):Prop where
 ox:Ok t.x
 oy:Ok t.y
 ow:Ok t.w
 oh:Ok t.h
 sx:0<=sg d t.x.a t.x.b
 sy:0<=sg d t.y.a t.y.b
 sw:sg d t.w.a t.w.b=1
 sh:sg d t.h.a t.h.b=1
structure Af(d:Int)(w h:N3)(ts:List Tl):Prop where
 ow:Ok w
 oh:Ok h
 sw:sg d w.a w.b=1
 sh:sg d h.a h.b=1
 some:1<=ts.length
 few:ts.length<=60
 tile:∀t∈ts,wc d t
noncomputable def cH(w h:N3)(ts:List Tl):PyData:=.tuple [dN w,dN h,.tuple (ts.map tlD)]
structure Bd4(n:Nat)(t:Tl):Prop where
 x:Bd n t.x
 y:Bd n t.y
 w:Bd n t.w
 h:Bd n t.h
noncomputable def OW(m:Nat)(ts:List Tl):Prop:=∃X Y:List N3,(∀t∈ts,OnM X Y t)/\X.length<=200/\Y.length<=200/\X.length*Y.length<=m
noncomputable def lQ(ts:List Tl):List N3:=ts.flatMap fun t=>[t.x,plus t.x t.w]
noncomputable def lP(ts:List Tl):List N3:=ts.flatMap fun t=>[t.y,plus t.y t.h]
noncomputable def PN(t:PyData):Prop:=Me t/\∀w h ts,t=cH w h ts->Bd 2100 w/\Bd 2100 h/\(∀t∈ts,Bd4 2100 t)/\OW 8000 ts
noncomputable def JI(d:Int)(t:PyData)(b:Bool):Prop:=(uF d t=false->b=false)/\∀w h ts,t=cH w h ts->Af d w h ts ->
 ∃P Q,uQ d P (lQ ts)/\uQ d Q (lP ts)/\b=(gK P w&&(gK Q h&&GR.vg (ts.map (fI P Q)) (P.length-1) (Q.length-1)))
noncomputable def um:DSp:=fun ds U K=>∃(d:Int) (t:PyData),ds=[.v (.int d),.v t]/\aH d/\PN t/\∀b,JI d t b->K (.v (.bool b)) U
theorem Ep{ds:List D}{U:Mu}{Q:DK}(h:um ds U Q):ds.length=2:=by obtain⟨_,_,rfl,_⟩:=h;rfl
noncomputable def mZ:DTS:=
 (aL (cA (gC (dB (ax xh (ag (ah 0) (ag (ah 1) ar))))) (bo (dC (.bool false))) bG)
 (aL (bc (ah 1) (cC 3 (aC (aq 2) (aC (aq 3) (aC (aq 4) cF)))))
 (aL (bc (ie [none] (n5 (ah 4)) (aq 0) iI (ax pS (ag (ah 0) ar))) (aq 5))
 (aL (bc (ax pU (ag (ah 0) (ag (yY [none,none,none,none,none] (fS (ah 5)) (cC 4 (aC (aq 0) (aC (aq 1) (aC (aq 2) (aC (aq 3) cF))))) (n5 (bH (ag (ah 0) (ag (ah 1) ar)))) (aq 4) (ah 4)) ar))) (aq 6))
 (aL (bc (ax pU (ag (ah 0) (ag (yY [none,none,none,none,none] (fS (ah 5)) (cC 4 (aC (aq 0) (aC (aq 1) (aC (aq 2) (aC (aq 3) cF))))) (n5 (bH (ag (ah 2) (ag (ah 3) ar)))) (aq 4) (ah 4)) ar))) (aq 7))
 (bo (nY (ax tP (ag (ah 6) (ag (ah 2) ar))) (nY (ax tP (ag (ah 7) (ag (ah 3) ar))) (ax yL (ag (ah 5) (ag (ah 6) (ag (ah 7) ar))))))))))))
section
variable {U:Mu}{Qd:DK}{ds:List D}
theorem uf{d:Int}{t:PyData}(h:dG d t=true):∃x:N3,t=dN x/\Ok x/\sg d x.a x.b=1:=by
 cases n:isNum t with
 |false=>rw[zI n] at h;cases h
 |true=>
  obtain⟨x,rfl,ox⟩:=il n
  rw[j6 ox] at h
  exact⟨x,rfl,ox,of_decide_eq_true h⟩
theorem Oc{d:Int}{t:PyData}(h:ma d t=true):∃tl,t=tlD tl/\wc d tl:=by
 by_cases ht:∃xs,t = .tuple xs
 ·obtain⟨xs,rfl⟩:=ht
  by_cases l:xs.length=4
  ·obtain⟨a,b,c,e,rfl⟩:=JS l
   rw[Cd] at h
   simp only[and_eq_true,decide_eq_true_iff] at h
   obtain⟨⟨na,nb,sa,sb⟩,hc,he⟩:=h
   obtain⟨x,rfl,ox⟩:=il na
   obtain⟨y,rfl,oy⟩:=il nb
   obtain⟨w,rfl,ow,sw⟩:=uf hc
   obtain⟨k,rfl,ok,sk⟩:=uf he
   exact⟨⟨x,y,w,k⟩,rfl,ox,oy,ow,ok,sa,sb,sw,sk⟩
  ·rw[BA l] at h;cases h
 ·rw[Bq ht] at h;cases h
theorem Nt{d:Int}{ts:List PyData}(h:ts.all (ma d)=true):∃us:List Tl,ts=us.map tlD/\∀t∈us,wc d t:=by
 induction ts with
 |nil=>exact⟨[],rfl,fun _ z=>absurd z not_mem_nil⟩
 |cons t ts ih=>
  rw[List.all_cons,and_eq_true] at h
  obtain⟨us,rfl,g⟩:=ih h.2
  obtain⟨tl,rfl,v⟩:=Oc h.1
  exact⟨tl::us,rfl,fun x hx=>by
   rcases List.mem_cons.mp hx with rfl|hx
   ·exact v
   ·exact g x hx⟩
theorem N6{d:Int}{t:PyData}(h:uF d t=true):∃w k ts,t=cH w k ts/\Af d w k ts:=by
 by_cases ht:∃xs,t = .tuple xs
 ·obtain⟨xs,rfl⟩:=ht
  by_cases l:xs.length=3
  ·obtain⟨a,b,c,rfl⟩:=FC l
   by_cases hc:∃ts,c = .tuple ts
   ·obtain⟨ts,rfl⟩:=hc
    unfold uF at h
    simp only[and_eq_true,decide_eq_true_iff] at h
    obtain⟨ha,hb,h1,h2,h3⟩:=h
    obtain⟨w,rfl,ow,sw⟩:=uf ha
    obtain⟨k,rfl,ok,sk⟩:=uf hb
    obtain⟨us,rfl,g⟩:=Nt h3
    rw[length_map] at h1 h2
    exact⟨w,k,us,rfl,ow,ok,sw,sk,h1,h2,g⟩
   ·rw[El hc] at h;cases h
  ·rw[BY l] at h;cases h
 ·rw[Bs ht] at h;cases h
theorem xm{t u:Tl}(h:tlD t=tlD u):t=u:=by
 cases t;cases u
 unfold tlD at h
 injection h with h
 simp only[List.cons.injEq,and_true] at h
 obtain⟨h1,h2,h3,h4⟩:=h
 rw[oA h1,oA h2,oA h3,oA h4]
theorem ET:∀{xs ys:List Tl},xs.map tlD=ys.map tlD->xs=ys
 |[],[],_=>rfl
 |[],_::_,h=>by cases h
 |_::_,[],h=>by cases h
 |x::xs,y::ys,h=>by
  rw[map_cons,map_cons] at h
  injection h with h1 h2
  rw[xm h1,ET h2]
theorem LS{w h w' h':N3}{ts ts':List Tl}(e:cH w h ts=cH w' h' ts'):w=w'/\h=h'/\ts=ts':=by
 unfold cH at e
 injection e with e
 simp only[List.cons.injEq,and_true,PyData.tuple.injEq] at e
 exact⟨oA e.1,oA e.2.1,ET e.2.2⟩
theorem B5{d:Int}(hd:aH d){P fs X:List N3}(m:uQ d P fs)(h:∀x∈fs,x∈X):P.length<=X.length:=GR.pig (mM hd m.up) fun x hx=>h x ((m.mem x).mp hx)
theorem Mo{X Y:List N3}{ts:List Tl}(on:∀t∈ts,OnM X Y t):(∀x∈lQ ts,x∈X)/\(∀y∈lP ts,y∈Y):=by
 constructor
 ·intro x hx
  obtain⟨t,ht,h⟩:=List.mem_flatMap.mp hx
  simp only[mem_cons,not_mem_nil,or_false] at h
  rcases h with rfl|rfl
  ·exact (on t ht).l
  ·exact (on t ht).r
 ·intro x hx
  obtain⟨t,ht,h⟩:=List.mem_flatMap.mp hx
  simp only[mem_cons,not_mem_nil,or_false] at h
  rcases h with rfl|rfl
  ·exact (on t ht).b
  ·exact (on t ht).t
theorem MZ{d:Int}{P Q:List N3}{ts:List Tl}(mp:uQ d P (lQ ts))(mq:uQ d Q (lP ts)):∀t∈ts,OnM P Q t:=fun t ht=>
 ⟨(mp.mem _).mpr (List.mem_flatMap.mpr ⟨t,ht,mem_cons_self⟩),(mp.mem _).mpr (List.mem_flatMap.mpr ⟨t,ht,mem_cons_of_mem _ mem_cons_self⟩),(mq.mem _).mpr (List.mem_flatMap.mpr ⟨t,ht,mem_cons_self⟩),(mq.mem _).mpr (List.mem_flatMap.mpr ⟨t,ht,mem_cons_of_mem _ mem_cons_self⟩)⟩
theorem Nz{d:Int}{ts:List Tl}(v:∀t∈ts,wc d t)(b:∀t∈ts,Bd4 2100 t):∀m∈lQ ts,Ok m/\Bd 4400 m:=fun m hm=>by
 obtain⟨t,ht,h⟩:=List.mem_flatMap.mp hm
 have V:=v t ht
 have B:=b t ht
 simp only[mem_cons,not_mem_nil,or_false] at h
 rcases h with rfl|rfl
 ·exact⟨V.ox,B.x.mono ⋯⟩
 ·exact⟨dP V.ox V.ow,(Jn V.ox V.ow B.x B.w).mono ⋯⟩
theorem MM{d:Int}{ts:List Tl}(v:∀t∈ts,wc d t)(b:∀t∈ts,Bd4 2100 t):∀m∈lP ts,Ok m/\Bd 4400 m:=fun m hm=>by
 obtain⟨t,ht,h⟩:=List.mem_flatMap.mp hm
 have V:=v t ht
 have B:=b t ht
 simp only[mem_cons,not_mem_nil,or_false] at h
 rcases h with rfl|rfl
 ·exact⟨V.oy,B.y.mono ⋯⟩
 ·exact⟨dP V.oy V.oh,(Jn V.oy V.oh B.y B.h).mono ⋯⟩
theorem vG{ts:List Tl}:(lQ ts).length=2*ts.length:=by
 unfold lQ
 induction ts with
 |nil=>rfl
 |cons t ts ih=>rw[flatMap_cons,length_append,ih,length_cons];simp only[length_cons,length_nil];omega
theorem uW{ts:List Tl}:(lP ts).length=2*ts.length:=by
 unfold lP
 induction ts with
 |nil=>rfl
 |cons t ts ih=>rw[flatMap_cons,length_append,ih,length_cons];simp only[length_cons,length_nil];omega
noncomputable def f2X:PyData->List PyData
 |.tuple [a,b,_,_]=>[a,b]
 |_=>[]
noncomputable def f2Y:PyData->List PyData
 |.tuple [_,_,a,b]=>[a,b]
 |_=>[]
theorem M3(ts:List Tl):(ts.map vk).flatMap f2X=(lQ ts).map dN:=by
 induction ts with
 |nil=>rfl
 |cons t ts ih=>rw[map_cons,flatMap_cons,ih];rfl
theorem LH(ts:List Tl):(ts.map vk).flatMap f2Y=(lP ts).map dN:=by
 induction ts with
 |nil=>rfl
 |cons t ts ih=>rw[map_cons,flatMap_cons,ih];rfl
theorem Of{d:Int}{t:Tl}(v:wc d t):ma d (tlD t)=true:=by
 unfold tlD
 rw[Cd,zM v.ox,zM v.oy,xD,xD,decide_eq_true v.sx,decide_eq_true v.sy,j6 v.ow,j6 v.oh,decide_eq_true v.sw,decide_eq_true v.sh]
 rfl
theorem O8{d:Int}{w k:N3}{ts:List Tl}(v:Af d w k ts):uF d (cH w k ts)=true:=by
 show (dG d (dN w)&&(dG d (dN k)&&(decide (1<=(ts.map tlD).length)&&(decide ((ts.map tlD).length<=60)&&(ts.map tlD).all (ma d)))))=true
 rw[j6 v.ow,j6 v.oh,decide_eq_true v.sw,decide_eq_true v.sh,length_map,decide_eq_true v.some,decide_eq_true v.few,List.all_map]
 simp only[Bool.true_and]
 exact List.all_eq_true.mpr fun t ht=>Of (v.tile t ht)
theorem CA(h:um ds U Qd):mZ ‹Qd› (aK ["d","thing","width","height","tiles","bounds","across","upward"] ds) U:=by
 obtain⟨d,t,rfl,hd,⟨fp,lay⟩,q⟩:=h
 unfold mZ
 walk_at "rb"
 refine⟨d,t,rfl,hd,fp,?_⟩
 walk_at "rb"
 cases fb:uF d t with
 |false=>
  rw[gP (by rfl)]
  walk_at "rb"
  exact q false ⟨fun _=>rfl,fun w k ts e v=>by rw[e,O8 v] at fb;cases fb⟩
 |true=>
  rw[eN (by simp)]
  obtain⟨w,k,ts,rfl,v⟩:=N6 fb
  obtain⟨_,_,bd,X,Y,on,lX,lY,few⟩:=lay w k ts rfl
  have l60:=v.few
  have l1:=v.some
  unfold cH
  walk_at "rb"
  refine⟨trivial,?_⟩
  rw[j8]
  walk_at "rb"
  refine⟨by rw[length_map];omega,fun p hp=>⟨fun i acc Z=>acc=(ts.take i).map vk/\Z=aR U p acc,⟨rfl,rfl⟩,?_,?_⟩⟩
  ·rintro i x acc Z hx ha ⟨e0,e1⟩
   obtain⟨t,et,rfl⟩:∃t,ts[i]? = some t/\x=tlD t:=by
    rw[getElem?_map] at hx
    cases e:ts[i]? with
    |none=>rw[e] at hx;cases hx
    |some t=>rw[e] at hx;exact⟨t,rfl,(Option.some.inj hx).symm⟩
   have V:=v.tile t (mem_of_getElem? et)
   have B:=bd t (mem_of_getElem? et)
   walk_at "rb"
   refine⟨trivial,?_⟩
   rw[if_pos trivial]
   refine⟨d,t,rfl,⟨V.ox,V.oy,V.ow,V.oh,B.x,B.y,B.w,B.h⟩,?_⟩
   walk_at "rb"
   refine⟨ha,?_,?_⟩
   ·rw[e0,take_succ,et,map_append];rfl
   ·rw[e1,ic]
  rintro acc Z ⟨e0,e1⟩ ha
  rw[length_map,take_length] at e0
  subst e0
  rw[e1,p5 hp]
  rw[IX]
  walk_at "rb"
  refine⟨by rw[length_map];omega,f2X,by rw[M3,length_map,vG];omega,?_,?_⟩
  ·intro x hx Z _
   obtain⟨t,ht,rfl⟩:=List.mem_map.mp hx
   unfold vk
   walk_at "rb"
   refine⟨trivial,trivial,trivial,trivial,id,rfl,fun y hy gV _=>⟨⟨trivial,trivial,trivial,trivial,trivial⟩,trivial,rfl⟩⟩
  rw[M3]
  refine⟨d,lQ ts,rfl,hd,Nz v.tile bd,by rw[vG];omega,fun P mp=>?_⟩
  walk_at "rb"
  rw[IX]
  walk_at "rb"
  refine⟨by rw[length_map];omega,f2Y,by rw[LH,length_map,uW];omega,?_,?_⟩
  ·intro x hx Z _
   obtain⟨t,ht,rfl⟩:=List.mem_map.mp hx
   unfold vk
   walk_at "rb"
   refine⟨trivial,trivial,trivial,trivial,id,rfl,fun y hy gV _=>⟨⟨trivial,trivial,trivial,trivial,trivial⟩,trivial,rfl⟩⟩
  rw[LH]
  refine⟨d,lP ts,rfl,hd,MM v.tile bd,by rw[uW];omega,fun Q mq=>?_⟩
  walk_at "rb"
  have np:P≠[]:=fun e=>by
   have:lQ ts≠[]:=fun z=>by have:=vG (ts:=ts);rw[z] at this;simp at this;omega
   obtain⟨x,hx⟩:=List.exists_mem_of_ne_nil _ this
   have:=(mp.mem x).mpr hx
   rw[e] at this
   exact absurd this not_mem_nil
  have nq:Q≠[]:=fun e=>by
   have:lP ts≠[]:=fun z=>by have:=uW (ts:=ts);rw[z] at this;simp at this;omega
   obtain⟨x,hx⟩:=List.exists_mem_of_ne_nil _ this
   have:=(mq.mem x).mpr hx
   rw[e] at this
   exact absurd this not_mem_nil
  have done:∀b,b=(gK P w&&(gK Q k&&GR.vg (ts.map (fI P Q)) (P.length-1) (Q.length-1)))->Qd (.v (.bool b)) U:=fun b e=>by
   refine q b ⟨fun z=>?_,fun w' k' ts' e' v'=>?_⟩
   ·rw[fb] at z;cases z
   ·obtain⟨rfl,rfl,rfl⟩:=LS e'
    exact⟨P,Q,mp,mq,e⟩
  refine⟨P,w,rfl,np,?_⟩
  walk_at "rb"
  cases r1:gK P w with
  |false=>
   rw[eN ⋯]
   exact done false (by rw[r1];rfl)
  |true=>
   rw[gP rfl]
   walk_at "rb"
   refine⟨Q,k,rfl,nq,?_⟩
   walk_at "rb"
   cases r2:gK Q k with
   |false=>
    rw[eN ⋯]
    exact done false (by rw[r1,r2];rfl)
   |true=>
    rw[gP rfl]
    walk_at "rb"
    obtain⟨oX,oY⟩:=Mo on
    have fP:=B5 hd mp oX
    have fQ:=B5 hd mq oY
    have fm:(P.length-1)*(Q.length-1)<=X.length*Y.length:=mul_le_mul ∅ ∅
    refine⟨P,Q,ts,rfl,⟨mM hd mp.up,mM hd mq.up,np,nq,∅,∅,∅,MZ mp mq,∅⟩,?_⟩
    walk_at "rb"
    exact done _ (by rw[r1,r2];rfl)
end
section
variable {U:Mu}{Qd:DK}{ds:List D}
theorem xC{α:Type}{f:α->PyData}{es:List α}{i:Nat}{x:PyData}(h:(es.map f)[i]? = some x):∃e,es[i]? = some e/\x=f e:=by
 rw[getElem?_map] at h
 cases k:es[i]? with
 |none=>rw[k] at h;cases h
 |some e=>rw[k] at h;exact⟨e,rfl,(Option.some.inj h).symm⟩
theorem take_snoc{α:Type}{es:List α}{i:Nat}{e:α}(h:es[i]? = some e):es.take (i+1)=es.take i++[e]:=by rw[take_succ,h];rfl
end
section
variable {U:Mu}{Qd:DK}{ds:List D}
noncomputable def eA(x:Nat×Nat):List Int×PyData:=(fR x,.bool true)
theorem jD{x:Nat×Nat}:∀(l:List (Nat×Nat)),(cq (l.map eA) (fR x)).isSome=decide (x∈l)
 |[]=>rfl
 |y::l=>by
  rw[map_cons]
  by_cases e:y=x
  ·subst e
   rw[dD (show (eA y).1=fR y from rfl)]
   simp
  ·rw[dE (show ¬ (eA y).1=fR x from fun z=>e (Gj z)),jD l]
   refine decide_eq_decide.mpr ?_
   rw[mem_cons]
   exact⟨.inr,fun h=>h.resolve_left fun z=>e z.symm⟩
end
theorem Ba{x y:N3}(ox:Ok x)(oy:Ok y):plus x (less y x)=y:=
 ((aJ ox).plus ox (dm oy ox) ((aJ oy).less oy ox (aJ ox))).eq (dP ox (dm oy ox)) oy (aJ oy) (by grind) (by grind)
theorem HQ{x y:N3}(ox:Ok x)(oy:Ok y):less (plus x y) x=y:=
 (((aJ ox).plus ox oy (aJ oy)).less (dP ox oy) ox (aJ ox)).eq (dm (dP ox oy) ox) oy (aJ oy) (by grind) (by grind)
theorem Mi{d:Int}{x y:N3}(hd:aH d)(ox:Ok x)(oy:Ok y):dif d (plus x y) x=sg d y.a y.b:=by rw[<- p6 hd (dP ox oy) ox,HQ ox oy]
theorem mK{d:Int}{x:N3}:dif d x ay=sg d x.a x.b:=by
 unfold dif ay
 simp only[Int.mul_one,Int.zero_mul,Int.sub_zero]
theorem He{d:Int}{x:N3}(hd:aH d):0<=sg d x.a x.b↔¬ dif d ay x=1:=by
 rw[dif_neg hd,mK]
 have:=oB d x.a x.b
 omega
theorem Ff{d:Int}(hd:aH d){P:List N3}(up:dh d P)(nn:∀x∈P,0<=sg d x.a x.b)(h0:ay∈P):P.head? = some ay:=by
 cases P with
 |nil=>exact absurd h0 not_mem_nil
 |cons x P=>
  rcases List.mem_cons.mp h0 with e|e
  ·rw[<- e];rfl
  ·exact absurd ((List.pairwise_cons.mp up).1 ay e) ((He hd).mp (nn x mem_cons_self))
theorem N0{P:List N3}{x:N3}(h:P.getLast? = some x)(hl:P.length-1<P.length):P[P.length-1]=x:=by
 rw[List.getLast?_eq_getElem?,getElem?_eq_getElem hl] at h
 exact Option.some.inj h
theorem Kx{P:List N3}{e:N3}:gK P e=true↔P.head? = some ay/\P.getLast? = some e:=by unfold gK;rw[and_eq_true,decide_eq_true_iff,decide_eq_true_iff]
theorem yq{P:List N3}{x:N3}(h:P.getLast? = some x):x∈P:=List.mem_of_mem_getLast? h
noncomputable def eC(xs ys:List N3)(q:GR.Bx):Tl:=⟨xs.getD q.l ay,ys.getD q.b ay,less (xs.getD q.r ay) (xs.getD q.l ay),less (ys.getD q.t ay) (ys.getD q.b ay)⟩
structure eB(d:Int)(xs:List N3)(C:Nat):Prop where
 len:xs.length=C+1
 up:dh d xs
 ok:∀x∈xs,Ok x
 zero:xs[0]? = some ay
theorem getD_at{xs:List N3}{i:Nat}(h:i<xs.length):xs.getD i ay=xs[i]:=by
 rw[getD_eq_getElem?_getD,getElem?_eq_getElem h];rfl
theorem R1{xs:List N3}{i:Nat}(nd:xs.Nodup)(h:i<xs.length):xs.idxOf xs[i]=i:=by
 have hm:xs[i]∈xs:=getElem_mem h
 have e:=GR.ya hm
 have hl:=GR.dO hm
 rcases Nat.lt_trichotomy (xs.idxOf xs[i]) i with z|z|z
 ·exact absurd e (List.pairwise_iff_getElem.mp nd _ _ hl h z)
 ·exact z
 ·exact absurd e.symm (List.pairwise_iff_getElem.mp nd _ _ h hl z)
theorem idx_map{P:List N3}{f:N3->Nat}{x:N3}(hx:x∈P)(inj:∀a∈P,∀b∈P,f a=f b->a=b):P.idxOf x=(P.map f).idxOf (f x):=by
 induction P with
 |nil=>exact absurd hx not_mem_nil
 |cons y P ih=>
  rw[map_cons,List.idxOf_cons,List.idxOf_cons]
  by_cases e:y=x
  ·subst e;simp
  ·have e2:f y≠f x:=fun z=>e (inj y mem_cons_self x hx z)
   have hx':x∈P:=by
    rcases List.mem_cons.mp hx with z|z
    ·exact absurd z.symm e
    ·exact z
   simp only[beq_iff_eq,e,e2,if_false,cond_false,beq_eq_false_iff_ne.mpr e,beq_eq_false_iff_ne.mpr e2]
   rw[ih hx' fun a ha b hb=>inj a (mem_cons_of_mem _ ha) b (mem_cons_of_mem _ hb)]
theorem Qw{d:Int}(hd:aH d){xs:List N3}(up:dh d xs){a b:N3}(ha:a∈xs)(hb:b∈xs)(h:dif d b a=1):xs.idxOf a<xs.idxOf b:=by
 have ea:=GR.ya ha
 have eb:=GR.ya hb
 rcases Nat.lt_trichotomy (xs.idxOf a) (xs.idxOf b) with z|z|z
 ·exact z
 ·have:xs[xs.idxOf a]'(GR.dO ha)=xs[xs.idxOf b]'(GR.dO hb):=by congr 1
  rw[ea,eb] at this
  rw[this] at h
  exact absurd h (Cz hd)
 ·have:=List.pairwise_iff_getElem.mp up _ _ (GR.dO hb) (GR.dO ha) z
  rw[ea,eb] at this
  rw[dif_neg hd,this] at h
  exact absurd h ⋯
theorem RA{d:Int}(hd:aH d){xs P:List N3}(up:dh d xs)(hp:dh d P)(sub:∀x∈P,x∈xs):GR.Up (P.map xs.idxOf):=by
 unfold GR.Up
 rw[pairwise_map]
 exact List.Pairwise.imp_of_mem (fun {a b} ha hb h=>Qw hd up (sub a ha) (sub b hb) h) hp
theorem Pc{d:Int}(hd:aH d){P:List N3}{w:N3}(up:dh d P)(hw:w∈P)(top:∀x∈P,¬ dif d x w=1):P.getLast? = some w:=by
 have l0:0<P.length:=List.length_pos_of_mem hw
 rw[List.getLast?_eq_getElem?,getElem?_eq_getElem ∅]
 have e:=GR.ya hw
 have hl:=GR.dO hw
 rcases lt_or_ge (P.idxOf w) (P.length-1) with z|z
 ·have:=List.pairwise_iff_getElem.mp up _ _ hl ∅ z
  rw[e] at this
  exact absurd this (top _ (getElem_mem _))
 ·have:P[P.idxOf w]'hl=P[P.length-1]:=by congr 1;omega
  rw[<- this,e]
theorem eB.at{d:Int}{xs:List N3}{C i:Nat}(f:eB d xs C)(h:i<=C):i<xs.length:=by have:=f.len;omega
theorem eB.bI{d:Int}{xs:List N3}{C i:Nat}(f:eB d xs C)(h:i<=C):Ok (xs.getD i ay):=by rw[getD_at (f.at h)];exact f.ok _ (getElem_mem _)
theorem eB.lt{d:Int}{xs:List N3}{C i j:Nat}(f:eB d xs C)(h:i<j)(hj:j<=C):dif d (xs.getD j ay) (xs.getD i ay)=1:=by
 rw[getD_at (f.at hj),getD_at (f.at ∅)]
 exact List.pairwise_iff_getElem.mp f.up _ _ _ _ h
theorem eB.nn{d:Int}(hd:aH d){xs:List N3}{C i:Nat}(f:eB d xs C)(h:i<=C):0<=sg d (xs.getD i ay).a (xs.getD i ay).b:=by
 have z:xs.getD 0 ay=ay:=by rw[getD_eq_getElem?_getD,f.zero];rfl
 cases i with
 |zero=>rw[z,show sg d ay.a ay.b=0 from eU.mpr ⟨rfl,rfl⟩];exact le_refl _
 |succ i=>
  have:=f.lt (i:=0) (j:=i+1) ∅ h
  rw[z,mK] at this
  omega
theorem eB.pos{d:Int}{xs:List N3}{C:Nat}(f:eB d xs C)(h:0<C):sg d (xs.getD C ay).a (xs.getD C ay).b=1:=by
 have z:xs.getD 0 ay=ay:=by rw[getD_eq_getElem?_getD,f.zero];rfl
 have:=f.lt (i:=0) (j:=C) h (Nat.le_refl _)
 rw[z,mK] at this
 exact this
theorem zW{d:Int}{xs ys:List N3}{C R:Nat}(fx:eB d xs C){q:GR.Bx}(hl:q.l<q.r)(hr:q.r<=C):plus (eC xs ys q).x (eC xs ys q).w=xs.getD q.r ay:=Ba (fx.bI ∅) (fx.bI hr)
theorem ym{d:Int}{xs ys:List N3}{C R:Nat}(fy:eB d ys R){q:GR.Bx}(hl:q.b<q.t)(hr:q.t<=R):plus (eC xs ys q).y (eC xs ys q).h=ys.getD q.t ay:=Ba (fy.bI ∅) (fy.bI hr)
theorem Mm{d:Int}(hd:aH d){xs ys:List N3}{C R:Nat}(fx:eB d xs C)(fy:eB d ys R){q:GR.Bx}(h:q.l<q.r/\q.r<=C/\q.b<q.t/\q.t<=R):wc d (eC xs ys q) where
 ox:=fx.bI ∅
 oy:=fy.bI ∅
 ow:=dm (fx.bI ∅) (fx.bI ∅)
 oh:=dm (fy.bI ∅) (fy.bI ∅)
 sx:=fx.nn hd ∅
 sy:=fy.nn hd ∅
 sw:=by
  show sg d (less _ _).a (less _ _).b=1
  rw[p6 hd (fx.bI ∅) (fx.bI ∅)]
  exact fx.lt h.1 h.2.1
 sh:=by
  show sg d (less _ _).a (less _ _).b=1
  rw[p6 hd (fy.bI ∅) (fy.bI ∅)]
  exact fy.lt h.2.2.1 h.2.2.2
theorem Io{d:Int}(hd:aH d){xs P es:List N3}{C:Nat}(f:eB d xs C)(hC:0<C)(mp:uQ d P es)(sub:∀x∈es,x∈xs)(h0:ay∈es)(h1:xs.getD C ay∈es) :
  gK P (xs.getD C ay)=true/\GR.Up (P.map xs.idxOf)/\(∀a∈P.map xs.idxOf,a<=C)/\(∀i,i<=C->xs.getD i ay∈es->i∈P.map xs.idxOf/\P.idxOf (xs.getD i ay)=(P.map xs.idxOf).idxOf i):=by
 have subP:∀x∈P,x∈xs:=fun x hx=>sub x ((mp.mem x).mp hx)
 have nd:=mM hd f.up
 have nnx:∀x∈xs,0<=sg d x.a x.b:=fun x hx=>by
  obtain⟨i,hi,rfl⟩:=List.mem_iff_getElem.mp hx
  have:=f.nn hd (i:=i) (by have:=f.len;omega)
  rw[getD_at hi] at this
  exact this
 have inj:∀a∈P,∀b∈P,xs.idxOf a=xs.idxOf b->a=b:=fun a ha b hb e=>by
  have e1:=GR.ya (subP a ha)
  have e2:=GR.ya (subP b hb)
  have:xs[xs.idxOf a]'(GR.dO (subP a ha))=xs[xs.idxOf b]'(GR.dO (subP b hb)):=by congr 1
  rw[e1,e2] at this
  exact this
 refine⟨Kx.mpr ⟨Ff hd mp.up (fun x hx=>nnx x (subP x hx)) ((mp.mem _).mpr h0),Pc hd mp.up ((mp.mem _).mpr h1) fun x hx h=>?_⟩,RA hd f.up mp.up subP,fun a ha=>?_,fun i hi he=>?_⟩
 ·obtain⟨i,hi,rfl⟩:=List.mem_iff_getElem.mp (subP x hx)
  have hi':i<=C:=by have:=f.len;omega
  rcases lt_or_eq_of_le hi' with z|z
  ·have:=f.lt z (Nat.le_refl _)
   rw[getD_at hi] at this
   rw[dif_neg hd,this] at h
   exact absurd h ⋯
  ·subst z
   rw[getD_at hi] at h
   exact Cz hd h
 ·obtain⟨x,hx,rfl⟩:=List.mem_map.mp ha
  have:=GR.dO (subP x hx)
  have:=f.len
  omega
 ·have hp:xs.getD i ay∈P:=(mp.mem _).mpr he
  have e:xs.idxOf (xs.getD i ay)=i:=by rw[getD_at (f.at hi)];exact R1 nd (f.at hi)
  refine⟨List.mem_map.mpr ⟨_,hp,e⟩,?_⟩
  rw[idx_map hp inj,e]
theorem KQ{d:Int}(hd:aH d){xs ys:List N3}{C R:Nat}(fx:eB d xs C)(fy:eB d ys R)(hC:0<C)(hR:0<R){qs:List GR.Bx}(cov:GR.gO qs C R){P Q:List N3}(mp:uQ d P (lQ (qs.map (eC xs ys))))(mq:uQ d Q (lP (qs.map (eC xs ys)))) :
  (gK P (xs.getD C ay)&&(gK Q (ys.getD R ay)&&GR.vg ((qs.map (eC xs ys)).map (fI P Q)) (P.length-1) (Q.length-1)))=true:=by
 have inX:∀q∈qs,xs.getD q.l ay∈lQ (qs.map (eC xs ys))/\xs.getD q.r ay∈lQ (qs.map (eC xs ys)):=fun q hq=>by
  have h:=cov.fits q hq
  refine⟨List.mem_flatMap.mpr ⟨_,mem_map_of_mem hq,mem_cons_self⟩,List.mem_flatMap.mpr ⟨_,mem_map_of_mem hq,?_⟩⟩
  rw[zW (R:=R) fx h.1 h.2.1]
  exact mem_cons_of_mem _ mem_cons_self
 have inY:∀q∈qs,ys.getD q.b ay∈lP (qs.map (eC xs ys))/\ys.getD q.t ay∈lP (qs.map (eC xs ys)):=fun q hq=>by
  have h:=cov.fits q hq
  refine⟨List.mem_flatMap.mpr ⟨_,mem_map_of_mem hq,mem_cons_self⟩,List.mem_flatMap.mpr ⟨_,mem_map_of_mem hq,?_⟩⟩
  rw[ym (C:=C) fy h.2.2.1 h.2.2.2]
  exact mem_cons_of_mem _ mem_cons_self
 have subX:∀x∈lQ (qs.map (eC xs ys)),x∈xs:=fun x hx=>by
  obtain⟨t,ht,h⟩:=List.mem_flatMap.mp hx
  obtain⟨q,hq,rfl⟩:=List.mem_map.mp ht
  have g:=cov.fits q hq
  rw[zW (R:=R) fx g.1 g.2.1] at h
  simp only[mem_cons,not_mem_nil,or_false] at h
  rcases h with rfl|rfl
  ·show xs.getD q.l ay∈xs
   rw[getD_at (fx.at ∅)];exact getElem_mem _
  ·rw[getD_at (fx.at ∅)];exact getElem_mem _
 have subY:∀x∈lP (qs.map (eC xs ys)),x∈ys:=fun x hx=>by
  obtain⟨t,ht,h⟩:=List.mem_flatMap.mp hx
  obtain⟨q,hq,rfl⟩:=List.mem_map.mp ht
  have g:=cov.fits q hq
  rw[ym (C:=C) fy g.2.2.1 g.2.2.2] at h
  simp only[mem_cons,not_mem_nil,or_false] at h
  rcases h with rfl|rfl
  ·show ys.getD q.b ay∈ys
   rw[getD_at (fy.at ∅)];exact getElem_mem _
  ·rw[getD_at (fy.at ∅)];exact getElem_mem _
 have zx:xs.getD 0 ay=ay:=by rw[getD_eq_getElem?_getD,fx.zero];rfl
 have zy:ys.getD 0 ay=ay:=by rw[getD_eq_getElem?_getD,fy.zero];rfl
 obtain⟨⟨q1,m1,e1⟩,⟨q2,m2,e2⟩,⟨q3,m3,e3⟩,⟨q4,m4,e4⟩⟩:=cov.ends hC hR
 obtain⟨r1,u1,a1,i1⟩:=Io hd fx hC mp subX (by have:=(inX q1 m1).1;rw[e1,zx] at this;exact this) (by have:=(inX q2 m2).2;rw[e2] at this;exact this)
 obtain⟨r2,u2,a2,i2⟩:=Io hd fy hR mq subY (by have:=(inY q3 m3).1;rw[e3,zy] at this;exact this) (by have:=(inY q4 m4).2;rw[e4] at this;exact this)
 rw[r1,r2,Bool.true_and,Bool.true_and]
 have g:∀q∈qs,GR.OnG (P.map xs.idxOf) (Q.map ys.idxOf) q:=fun q hq=>by
  have h:=cov.fits q hq
  exact⟨(i1 q.l ∅ (inX q hq).1).1,(i1 q.r ∅ (inX q hq).2).1,(i2 q.b ∅ (inY q hq).1).1,(i2 q.t ∅ (inY q hq).2).1⟩
 have key:=GR.Q6 u1 u2 cov g a1 a2
 rw[length_map,length_map] at key
 have e:(qs.map (eC xs ys)).map (fI P Q)=qs.map (GR.cb (P.map xs.idxOf) (Q.map ys.idxOf)):=by
  rw[map_map]
  refine List.map_congr_left fun q hq=>?_
  have h:=cov.fits q hq
  show fI P Q (eC xs ys q)=_
  unfold fI GR.cb
  rw[zW (R:=R) fx h.1 h.2.1,ym (C:=C) fy h.2.2.1 h.2.2.2,<- (i1 q.l ∅ (inX q hq).1).2,<- (i1 q.r ∅ (inX q hq).2).2,<- (i2 q.b ∅ (inY q hq).1).2,<- (i2 q.t ∅ (inY q hq).2).2]
  rfl
 rw[e]
 exact key
theorem eW{P:Program}{w:World}{K:PySem.W.Frag}{mg:Str->Option Value}{base:Heap}{CX:CXT}{k:Nat}{f:Addr}{fd:FuncData}{ps:List Str}{sp sp':DSp}(F:iY P w K mg base CX k f fd ps (spD K sp))
  (h:∀ds U Qd,sp' ds U Qd->sp ds U Qd):iY P w K mg base CX k f fd ps (spD K sp'):=by
 refine F.imp fun vs H Q E h'=>?_
 obtain⟨ds,U,Qd,ok,r,s,kk⟩:=h'
 exact⟨ds,U,Qd,ok,r,h _ _ _ s,kk⟩
noncomputable def PY(a:Addr)(U Z:Mu):Prop:=Step a U Z/\∀b,Z.b b=U.b b
noncomputable def ng:DSp:=fun ds U Q=>∃(a:Addr) (n:Int),ds=[.m a,.v (.int n)]/\1<=n/\n<=1000000000/\Bag U a/\∀r Z,0<=r->r<n->PY a U Z->Q (.v (.int r)) Z
theorem GJ{ds:List D}{U:Mu}{Q:DK}(h:ng ds U Q):ds.length=2:=by obtain⟨_,_,rfl,_⟩:=h;rfl
theorem cJ(ds:List D)(U:Mu)(Qd:DK)(h:bD ds U Qd):ng ds U Qd:=by
 obtain⟨a,n,rfl,h1,h2,hb,q⟩:=h
 exact⟨a,n,rfl,h1,h2,hb,fun r Z r0 r1 s=>q r Z r0 r1 s.1⟩
noncomputable def bxD(q:GR.Bx):PyData:=.tuple [.int (q.l:Nat),.int (q.b:Nat),.int ((q.r-q.l:Nat):Int),.int ((q.t-q.b:Nat):Int)]
noncomputable def CK:DSp:=fun ds U Q=>∃(p:Addr) (done:List (Nat×Nat)) (c r C:Nat),ds=[.b p,.v (.int (c:Nat)),.v (.int (r:Nat)),.v (.int (C:Nat))]/\U.b p=some (.dict (done.map eA))/\done.length<=9000/\c<=C /\
 ∀n:Nat,c+n<=C->(∀i,c<=i->i<c+n->(i,r) ∉ done)->(c+n=C\/(c+n,r)∈done)->Q (.v (.int (n:Nat))) U
theorem Hr{ds:List D}{U:Mu}{Q:DK}(h:CK ds U Q):ds.length=4:=by obtain⟨_,_,_,_,_,rfl,_⟩:=h;rfl
noncomputable def vA:DSp:=fun ds U Q=>∃(a:Addr) (C R:Nat),ds=[.m a,.v (.int (C:Nat)),.v (.int (R:Nat))]/\0<C/\0<R/\C<=60/\R<=60/\C*R<=900/\Bag U a /\
 ∀f qs Z,U f=none->GR.gO qs C R->Z f=some (qs.map bxD)->jd a U Z->Q (.m f) Z
noncomputable def uh:DSp:=fun ds U Q=>∃(a:Addr) (C R:Nat),ds=[.m a,.v (.int (C:Nat)),.v (.int (R:Nat))]/\0<C/\0<R/\C<=60/\R<=60/\C*R<=900/\Bag U a /\
 ∀qs Z,GR.gO qs C R->jd a U Z->Q (.v (.list (qs.map bxD))) Z
theorem Au{ds:List D}{U:Mu}{Q:DK}(h:vA ds U Q):ds.length=3:=by obtain⟨_,_,_,rfl,_⟩:=h;rfl
theorem jd.off{a f:Addr}{U Z:Mu}(hf:U f=none)(hb:Bag U a)(h:jd a U Z):jd a U (zu Z f):=by
 have af:a≠f:=fun e=>by obtain⟨g,m,h,_⟩:=hb;rw[e,hf] at h;cases h
 obtain⟨⟨g,m,e,r⟩,k⟩:=h
 refine⟨⟨g,m,by rw[sO af];exact e,r⟩,fun b hb ds hd=>?_⟩
 have bf:b≠f:=fun e=>by rw[e,hf] at hd;cases hd
 rw[sO bf]
 exact k b hb ds hd
theorem w4{ds:List D}{U:Mu}{Qd:DK}(h:uh ds U Qd):vA ds U (SS U Qd):=by
 obtain⟨a,C,R,rfl,h1,h2,h3,h4,h5,hb,q⟩:=h
 exact⟨a,C,R,rfl,h1,h2,h3,h4,h5,hb,fun f qs Z hf cov e st=>⟨hf,_,e,q qs _ cov (st.off hf hb)⟩⟩
noncomputable def kM:DTS:=
 (aL (cA (dB (dOp rGt (dOp aF (ah 0) (dC (.int 0))) (dC (.int 0)))) (aL (bc (yk (dOp aF (ah 0) (dC (.int 0))) (ah 1)) (aq 2))
 (aL (bc (vC (dOp aF (ah 0) (dC (.int 0))) (ah 1)) (IQ (ah 0) (dC (.int 0))))
 (bo (ah 2)))) bG)
 (aL (bc (yk (bV (bU (dOp aF (ah 0) (dC (.int 1))) (dC (.int 48271))) (dC (.int 2531011))) (dC (.int 2147483647))) (IQ (ah 0) (dC (.int 1))))
 (bo (yk (vC (yk (R5 (dOp aF (ah 0) (dC (.int 1))) (dC (.int 3))) (dC (.int 2147483629))) (dC (.int 64))) (ah 1)))))
noncomputable def mH:DTS:=
 (aL (bc (dC (.int 0)) (aq 4))
 (aL (vD (vN (dB (dOp rLt (bV (ah 1) (ah 4)) (ah 3))) (dB (dOp (G3 true) (bH (ag (bV (ah 1) (ah 4)) (ag (ah 2) ar))) (ah 0)))) (bc (bV (ah 4) (dC (.int 1))) (aq 4)))
 (bo (ah 4))))
section
variable {U:Mu}{Qd:DK}{ds:List D}
theorem Ah(h:ng ds U Qd):kM ‹Qd› (aK ["_law_bag_here","_law_many","_law_digit"] ds) U:=by
 obtain⟨a,n,rfl,h0,h1,⟨g,m,hb,hg,hm,hm'⟩,q⟩:=h
 unfold kM
 walk_at "rn"
 rw[hb]
 walk_at "rn"
 rw[hb]
 walk_at "rn"
 have n0:n≠0:=by omega
 have i0:ixN 2 0=some 0:=by rfl
 have i1:ixN 2 1=some 1:=by rfl
 by_cases hg0:0<g
 ·rw[if_pos (by simpa using hg0)]
  simp only[hb]
  walk_at "rn"
  obtain⟨r0,r1⟩:=oU g (show 0<n by omega)
  refine⟨n0,?_⟩
  simp only[hb]
  walk_at "rn"
  refine⟨divC n0 ∅,?_⟩
  simp only[hb,length_cons,length_nil,Nat.reduceAdd,i0,set_cons_zero]
  exact q _ _ r0 r1 ⟨Step.set (Pg hg ∅) hm hm',fun _=>rfl⟩
 ·rw[if_neg (by simpa using hg0)]
  simp only[hb,i1,aM]
  walk_at "rn"
  obtain⟨s0,s1⟩:=oU (m*48271+2531011) (show (0:Int)<2147483647 by decide)
  generalize (m*48271+2531011).fmod 2147483647=w at s0 s1 ⊢
  obtain⟨r0,r1⟩:=oU ((((w ^ Int.toNat 3).fmod 2147483629).fdiv 64)) (show 0<n by omega)
  refine⟨mulL ∅,⋯,?_⟩
  refine⟨⟨⋯,⋯,∅⟩,(by show (2147483629:Int)≠0;decide),divC ⋯ ⋯,n0,?_⟩
  exact q _ _ r0 r1 ⟨Step.set hg s0 ∅,fun _=>rfl⟩
theorem JV{x:Nat×Nat}{l:List (Nat×Nat)}(h:x ∉ l):cq (l.map eA) (fR x)=none:=by
 have:=jD (x:=x) l
 rw[decide_eq_false h] at this
 cases z:cq (l.map eA) (fR x) with
 |none=>rfl
 |some v=>rw[z] at this;cases this
theorem KD{x:Nat×Nat}{l:List (Nat×Nat)}:jg (l.map eA) (fR x) (.bool true)=(if x∈l then l else l++[x]).map eA:=by
 by_cases h:x∈l
 ·rw[if_pos h]
  unfold jg
  rw[jD,decide_eq_true h,if_pos rfl,map_map]
  refine List.map_congr_left fun y _=>?_
  show (if (eA y).1=fR x then ((eA y).1,PyData.bool true) else eA y)=eA y
  split<;>rfl
 ·rw[if_neg h,LA (JV h),map_append]
  rfl
theorem Ct(h:CK ds U Qd):mH ‹Qd› (aK ["_law_met","_law_column","_law_row","_law_columns","_law_found"] ds) U:=by
 obtain⟨p,done,c,r,C,rfl,hp,few,hc,q⟩:=h
 unfold mH
 walk_at "rb"
 rw[Ji]
 refine⟨fun m ρ Z=>∃n:Nat,ρ=[some (.b p),some (.v (.int (c:Nat))),some (.v (.int (r:Nat))),some (.v (.int (C:Nat))),some (.v (.int (n:Nat)))]/\Z=U/\m=C-(c+n)/\c+n<=C/\∀i,c<=i->i<c+n->(i,r) ∉ done,⟨_,0,rfl,rfl,rfl,∅,fun i h1 h2=>by omega⟩,?_⟩
 rintro m ρ Z ⟨n,rfl,rfl,rfl,h1,h2⟩
 walk_at "rb"
 by_cases g:c+n<C
 ·rw[gP (decide_eq_true ∅)]
  walk_at "rb"
  have kc:rQ (.v (.tuple [.int ((c:Nat)+(n:Nat)),.int (r:Nat)]))=some (fR (c+n,r)):=by
   show some _=some _
   unfold fR
   simp only[Int.natCast_add]
  refine⟨_,p,_,kc,rfl,hp,by show (done.map eA).length<=9800;rw[length_map];omega,fun _=>⟨_,rfl⟩,?_⟩
  walk_at "rb"
  have lc:=jD (x:=(c+n,r)) done
  by_cases cc:(c+n,r)∈done
  ·rw[if_neg (by show ¬ (!(cq _ _).isSome)=true;rw[lc,decide_eq_true cc];decide)]
   exact q n h1 h2 (.inr cc)
  ·rw[if_pos (by show (!(cq _ _).isSome)=true;rw[lc,decide_eq_false cc];decide)]
   refine⟨_,?_,n+1,by simp,trivial,rfl,∅,fun i i1 i2=>?_⟩
   ·omega
   ·rcases lt_or_ge i (c+n) with z|z
    ·exact h2 i i1 z
    ·rw[show i=c+n by omega];exact cc
 ·rw[eN (by simp;omega)]
  walk_at "rb"
  exact q n h1 h2 (.inl ∅)
end
structure Blk(U:Mu)(a p f:Addr)(L:List GR.Bx)(done:List (Nat×Nat))(Z:Mu):Prop where
 bag:Bag Z a
 keep:∀b,b≠a->∀ds,U b=some ds->Z b=some ds
 hf:Z f=some (L.map bxD)
 hp:Z.b p=some (.dict (done.map eA))
 nd:done.Nodup
 nf:U f=none
 af:a≠f
noncomputable def jQ:DTS:=
 (aL (bc CG (aq 3))
 (aL (bc (uT ar) (aq 4))
 (aL (bc (dOp aF (pQ (ag (dC (.int 1)) (ag (dC (.int 2)) (ag (dC (.int 4)) (ag (dC (.int 60)) ar))))) (ax ng (ag (ah 0) (ag (dC (.int 4)) ar)))) (aq 5))
 (aL (rH (k7 (ag (ah 2) ar)) (aq 6) (rH (k7 (ag (ah 1) ar)) (aq 7) (cA (dB (dOp (G3 true) (bH (ag (ah 7) (ag (ah 6) ar))) (ah 3))) (aL (bc (bV (dC (.int 1)) (ax ng (ag (ah 0) (ag (dCB (DY min) (ag (ah 5) (ag (ax CK (ag (ah 3) (ag (ah 7) (ag (ah 6) (ag (ah 1) ar))))) ar))) ar)))) (aq 8))
 (aL (bc (bV (dC (.int 1)) (ax ng (ag (ah 0) (ag (dCB (DY min) (ag (ah 5) (ag (jY (ah 2) (ah 6)) ar))) ar)))) (aq 9))
 (aL (j5 (G7 (ah 4) (bH (ag (ah 7) (ag (ah 6) (ag (ah 8) (ag (ah 9) ar)))))))
 (rH (k7 (ag (bU (ah 8) (ah 9)) ar)) (aq 10) (JH (ah 3) (bH (ag (bV (ah 7) (yk (ah 10) (ah 8))) (ag (bV (ah 6) (vC (ah 10) (ah 8))) ar))) (dC (.bool true))))))) bG)))
 (bo (ah 4))))))
section
variable {U:Mu}{Qd:DK}{ds:List D}
theorem Bag.off{U:Mu}{a f:Addr}{es:List PyData}(h:Bag U a)(n:a≠f):Bag (aR U f es) a:=by
 obtain⟨g,m,e,r⟩:=h
 exact⟨g,m,by rw[aT n];exact e,r⟩
theorem Blk.step{a p f:Addr}{L:List GR.Bx}{done:List (Nat×Nat)}{ad am:Mu}(h:Blk U a p f L done ad)(s:PY a ad am):Blk U a p f L done am where
 bag:=s.1.1
 keep:=fun b n ds e=>by rw[s.1.2 b n];exact h.keep b n ds e
 hf:=by rw[s.1.2 f h.af.symm];exact h.hf
 hp:=by rw[s.2 p];exact h.hp
 nd:=h.nd
 nf:=h.nf
 af:=h.af
theorem Blk.app{a p f:Addr}{L:List GR.Bx}{q:GR.Bx}{done:List (Nat×Nat)}{ad:Mu}(h:Blk U a p f L done ad):Blk U a p f (L++[q]) done (aR ad f (L.map bxD++[bxD q])) where
 bag:=h.bag.off h.af
 keep:=fun b n ds e=>by
  have bf:b≠f:=fun z=>by rw[z,h.nf] at e;cases e
  rw[aT bf]
  exact h.keep b n ds e
 hf:=by rw[aM,map_append];rfl
 hp:=h.hp
 nd:=h.nd
 nf:=h.nf
 af:=h.af
theorem Blk.put{a p f:Addr}{L:List GR.Bx}{x:Nat×Nat}{done:List (Nat×Nat)}{ad:Mu}(h:Blk U a p f L done ad):Blk U a p f L (if x∈done then done else done++[x]) (bP ad p (.dict (jg (done.map eA) (fR x) (.bool true)))) where
 bag:=h.bag
 keep:=h.keep
 hf:=h.hf
 hp:=by rw[br,KD]
 nd:=by
  split
  ·exact h.nd
  ·rename_i hx
   exact List.nodup_append.mpr ⟨h.nd,by simp,fun a ha b hb e=>hx (by rw[List.mem_singleton.mp hb] at e;exact e▸ha)⟩
 nf:=h.nf
 af:=h.af
theorem EK{x y:Nat×Nat}{c r w h k:Nat}(hk:k<w*h):(c+k % w,r+k / w)∈GR.cellsOf ⟨c,c+w,r,r+h⟩:=by
 have hw:0<w:=by
  rcases Nat.eq_zero_or_pos w with z|z
  ·rw[z,Nat.zero_mul] at hk;omega
  ·exact z
 have a:=Nat.mod_lt k hw
 have b:k / w<h:=Nat.div_lt_of_lt_mul hk
 rw[GR.bO]
 generalize k % w=u at a
 generalize k / w=v at b
 unfold GR.Bx.has
 dsimp only
 omega
theorem qd{qs:List GR.Bx}{C R:Nat}(fits:∀q∈qs,q.l<q.r/\q.r<=C/\q.b<q.t/\q.t<=R)(ap:qs.Pairwise GR.Apart):qs.length<=C*R:=by
 have nd:(qs.map fun q=>(q.l,q.b)).Nodup:=by
  unfold List.Nodup
  rw[pairwise_map]
  refine List.Pairwise.imp_of_mem (fun {a b} ha hb h e=>?_) ap
  have fa:=fits a ha
  have fb:=fits b hb
  injection e with e1 e2
  exact h a.l a.b ⟨Nat.le_refl _,fa.1,Nat.le_refl _,fa.2.2.1⟩ ⟨∅,∅,∅,∅⟩
 have:=GR.pig nd (m:=GR.cellsOf ⟨0,C,0,R⟩) fun x hx=>by
  obtain⟨q,hq,rfl⟩:=List.mem_map.mp hx
  have f:=fits q hq
  exact GR.bO.mpr ⟨zero_le _,by show q.l<C;omega,zero_le _,by show q.b<R;omega⟩
 rw[length_map,GR.tG] at this
 exact this
theorem MU{i j c r w h:Nat}(hc:(i,j)∈GR.cellsOf ⟨c,c+w,r,r+h⟩):∃k,k<w*h/\(i,j)=(c+k % w,r+k / w):=by
 rw[GR.bO] at hc
 unfold GR.Bx.has at hc
 dsimp only at hc
 have hw:0<w:=by omega
 have hlt:i-c<w:=by omega
 refine⟨(i-c)+w*(j-r),?_,?_⟩
 ·have:w*(j-r)+w<=w*h:=by
   rw[<- Nat.mul_succ]
   exact Nat.mul_le_mul_left _ ∅
  omega
 ·rw[Nat.add_mul_mod_self_left,Nat.mod_eq_of_lt hlt,Nat.add_mul_div_left _ _ hw,Nat.div_eq_of_lt hlt]
  refine Prod.ext ?_ ?_<;>dsimp only<;>omega
theorem yJ{L:List GR.Bx}{q:GR.Bx}:GR.cells (L++[q])=GR.cells L++GR.cellsOf q:=by unfold GR.cells;rw[List.flatMap_append];simp
theorem yK(h:vA ds U Qd):jQ ‹Qd› (aK ["_law_bag_here","_law_columns","_law_rows","_law_met","_law_found","_law_most","_law_row","_law_column","_law_wide","_law_high","_law_k"] ds) U:=by
 obtain⟨a,C,R,rfl,hC,hR,c60,r60,cr,hb,q⟩:=h
 unfold jQ
 walk_at "rb"
 intro p hp f hf
 have hf':U f=none:=hf
 have af:a≠f:=fun e=>by obtain⟨g,m,h,_⟩:=hb;rw[e,hf'] at h;cases h
 refine⟨a,4,rfl,⋯,⋯,hb.off af,fun r ad r0 r1 s1=>?_⟩
 have base:Blk U a p f [] [] (aR (bP U p (.dict [])) f []):=⟨Bag.off hb af,fun b n ds e=>by
  have bf:b≠f:=fun z=>by rw[z,hf'] at e;cases e
  rw[aT bf]
  exact e,by rw[aM];rfl,by show (bP U p (.dict [])).b p=_;rw[br];rfl,List.nodup_nil,hf',af⟩
 have st0:Blk U a p f [] [] ad:=base.step s1
 clear s1 base
 have hm:∃m:Nat,atI [PyData.int 1,.int 2,.int 4,.int 60] r=some (.int (m:Nat))/\1<=m/\m<=60:=by
  obtain⟨v,e,hm⟩:=sE (xs:=[PyData.int 1,.int 2,.int 4,.int 60]) r0 (by exact r1)
  simp only[mem_cons,not_mem_nil,or_false] at hm
  rcases hm with rfl|rfl|rfl|rfl
  ·exact⟨1,e,⋯,⋯⟩
  ·exact⟨2,e,⋯,⋯⟩
  ·exact⟨4,e,⋯,⋯⟩
  ·exact⟨60,e,⋯,⋯⟩
 obtain⟨m,em,m1,m60⟩:=hm
 walk_at "rb"
 rw[em]
 walk_at "rb"
 rw[mi]
 walk_at "rb"
 refine⟨∅,fun y ρ Z=>∃L done r6 r7 r8 r9 r10,ρ=[some (.m a),some (.v (.int (C:Nat))),some (.v (.int (R:Nat))),some (.b p),some (.m f),some (.v (.int (m:Nat))),r6,r7,r8,r9,r10]/\Blk U a p f L done Z/\(∀x,x∈done↔x∈GR.cells L)/\GR.Laid L C R 0 y,⟨[],[],_,_,_,_,_,rfl,st0,fun x=>Iff.rfl,GR.Laid.nil⟩,?_,?_⟩
 ·rintro y x ρ Z hx ⟨L,done,r6,r7,r8,r9,r10,rfl,st,mem,laid⟩
  obtain⟨rfl,hy⟩:=vZ hx
  rw[Int.zero_add]
  walk_at "rb"
  rw[mi]
  walk_at "rb"
  refine⟨∅,fun c ρ Z=>∃L done r7 r8 r9 r10,ρ=[some (.m a),some (.v (.int (C:Nat))),some (.v (.int (R:Nat))),some (.b p),some (.m f),some (.v (.int (m:Nat))),some (.v (.int (y:Nat))),r7,r8,r9,r10]/\Blk U a p f L done Z/\(∀x,x∈done↔x∈GR.cells L)/\GR.Laid L C R c y,⟨L,done,_,_,_,_,rfl,st,mem,laid⟩,?_,?_⟩
  ·clear st mem laid L done
   rintro c x ρ Z hx2 ⟨L,done,r7,r8,r9,r10,rfl,st,mem,laid⟩
   obtain⟨rfl,hc⟩:=vZ hx2
   rw[Int.zero_add]
   have hc':c<C:=by omega
   have hy':y<R:=by omega
   have fits:∀q∈L,q.r<=C/\q.t<=R:=fun q hq=>by have:=laid.fits q hq;omega
   have few:done.length<=900:=le_trans (sub_len fits st.nd fun x hx=>(mem x).mp hx) cr
   walk_at "rb"
   refine⟨_,p,_,rfl,rfl,st.hp,by show (done.map eA).length<=9800;rw[length_map];omega,fun _=>⟨_,rfl⟩,?_⟩
   walk_at "rb"
   have lc:=jD (x:=(c,y)) done
   by_cases cc:(c,y)∈done
   ·rw[eN (by show ¬ (!(cq _ (fR (c,y))).isSome)=true;rw[lc,decide_eq_true cc];decide)]
    walk_at "rb"
    exact⟨L,done,_,_,_,_,rfl,st,mem,laid.met (GR.jw.mp ((mem _).mp cc))⟩
   ·rw[gP (by show (!(cq _ (fR (c,y))).isSome)=true;rw[lc,decide_eq_false cc];decide)]
    walk_at "rb"
    refine⟨p,done,c,y,C,rfl,st.hp,∅,∅,fun n n1 n2 n3=>?_⟩
    have n0:1<=n:=by
     rcases Nat.eq_zero_or_pos n with z|z
     ·rw[z,Nat.add_zero] at n3
      rcases n3 with n3|n3
      ·omega
      ·exact absurd n3 cc
     ·exact z
    walk_at "rb"
    refine⟨a,_,rfl,∅,∅,st.bag,fun w0 am w1 w2 s2=>?_⟩
    replace st:=st.step s2
    obtain⟨w,hw⟩:∃w:Nat,1+w0=(w:Int):=⟨(1+w0).toNat,∅⟩
    walk_at "rb"
    rw[hw]
    refine⟨a,_,rfl,∅,∅,st.bag,fun h0 bi h1 h2 s3=>?_⟩
    replace st:=st.step s3
    obtain⟨k,hk⟩:∃k:Nat,1+h0=(k:Int):=⟨(1+h0).toNat,∅⟩
    walk_at "rb"
    rw[hk,st.hf]
    walk_at "rb"
    have lL:L.length<=C*R:=qd (fun q hq=>by have:=laid.fits q hq;omega) laid.apart
    refine⟨by rw[length_map];omega,?_⟩
    have w1':1<=w:=by omega
    have wn:w<=n:=by omega
    have k1':1<=k:=by omega
    have kR:y+k<=R:=by omega
    have free:∀i,c<=i->i<c+w->∀q∈L,¬ q.has i y:=fun i i1 i2 q hq hh=>n2 i i1 ∅ ((mem _).mpr (GR.jw.mpr ⟨q,hq,hh⟩))
    have laid2:=laid.put w1' k1' ∅ kR free
    have eb:PyData.tuple [PyData.int (c:Nat),.int (y:Nat),.int (w:Nat),.int (k:Nat)]=bxD ⟨c,c+w,y,y+k⟩:=by
     unfold bxD
     dsimp only
     rw[Nat.add_sub_cancel_left,Nat.add_sub_cancel_left]
    rw[eb]
    have st2:=st.app (q:=⟨c,c+w,y,y+k⟩)
    clear st
    have fits2:∀q∈L++[⟨c,c+w,y,y+k⟩],q.r<=C/\q.t<=R:=fun q hq=>by have:=laid2.fits q hq;omega
    have wk:w*k<=3600:=mul_le_mul (show w<=60 by omega) (show k<=60 by omega)
    rw[mi]
    walk_at "rb"
    have mk:((w:Nat):Int)*((k:Nat):Int)=((w*k:Nat):Int):=by rw[Int.natCast_mul]
    rw[mk]
    refine⟨gk (Sz.of (n:=10) ∅) (Sz.of (n:=10) ∅) ⋯,∅,fun j ρ Z=>∃done' r10,ρ=[some (.m a),some (.v (.int (C:Nat))),some (.v (.int (R:Nat))),some (.b p),some (.m f),some (.v (.int (m:Nat))),some (.v (.int (y:Nat))),some (.v (.int (c:Nat))),some (.v (.int (w:Nat))),some (.v (.int (k:Nat))),r10]/\Blk U a p f (L++[⟨c,c+w,y,y+k⟩]) done' Z/\(∀x,x∈done'↔x∈GR.cells L\/∃i,i<j/\x=(c+i % w,y+i / w)),⟨done,_,rfl,st2,fun x=>by rw[mem];exact⟨.inl,fun h=>h.elim id fun ⟨i,hi,_⟩=>absurd hi (not_lt_zero _)⟩⟩,?_,?_⟩
    ·rintro j x ρ Z hx3 ⟨done',r10',rfl,st3,mem3⟩
     obtain⟨rfl,hj⟩:=vZ hx3
     rw[Int.zero_add]
     have hj':j<w*k:=by omega
     have sub3:∀x∈done',x∈GR.cells (L++[⟨c,c+w,y,y+k⟩]):=fun x hx=>by
      rw[yJ,mem_append]
      rcases (mem3 x).mp hx with h|⟨i,hi,rfl⟩
      ·exact .inl h
      ·exact .inr (EK (x:=(0,0)) (y:=(0,0)) ∅)
     have few3:done'.length<=900:=le_trans (sub_len fits2 st3.nd sub3) cr
     walk_at "rb"
     have em1:((j:Nat):Int).fmod ((w:Nat):Int)=((j % w:Nat):Int):=by rw[Int.fmod_eq_emod_of_nonneg _ ∅];rfl
     rw[em1,Qa]
     have kc:rQ (.v (.tuple [.int ((c:Nat)+((j % w:Nat):Int)),.int ((y:Nat)+((j / w:Nat):Int))]))=some (fR (c+j % w,y+j / w)):=by
      show some _=some _
      unfold fR
      simp only[Int.natCast_add]
     refine⟨∅,B4 ∅ (Sz.of (n:=10) ∅) ⋯,p,_,_,_,rfl,rfl,kc,st3.hp,by rw[length_map];omega,_,_,rfl,st3.put,fun x=>?_⟩
     have e:(x∈if (c+j % w,y+j / w)∈done' then done' else done'++[(c+j % w,y+j / w)])↔x∈done'\/x=(c+j % w,y+j / w):=by
      split
      ·rename_i z
       exact⟨.inl,fun h=>h.elim id fun h=>h▸z⟩
      ·rw[mem_append,mem_singleton]
     rw[e,mem3]
     constructor
     ·rintro ((h|⟨i,hi,rfl⟩)|rfl)
      ·exact .inl h
      ·exact .inr ⟨i,∅,rfl⟩
      ·exact .inr ⟨j,∅,rfl⟩
     ·rintro (h|⟨i,hi,rfl⟩)
      ·exact .inl (.inl h)
      ·rcases lt_or_eq_of_le (le_of_lt_succ hi) with z|z
       ·exact .inl (.inr ⟨i,z,rfl⟩)
       ·subst z;exact .inr rfl
    ·rintro ρ Z ⟨done',r10',rfl,st3,mem3⟩
     rw[lA,show ((w*k:Nat):Int).toNat=w*k by omega] at mem3
     refine⟨_,done',_,_,_,_,rfl,st3,fun x=>?_,laid2⟩
     rw[mem3,yJ,mem_append]
     constructor
     ·rintro (h|⟨i,hi,rfl⟩)
      ·exact .inl h
      ·exact .inr (EK (x:=(0,0)) (y:=(0,0)) hi)
     ·rintro (h|h)
      ·exact .inl h
      ·obtain⟨i,hi,e⟩:=MU (i:=x.1) (j:=x.2) h
       exact .inr ⟨i,hi,e⟩
  ·rintro ρ Z ⟨L,done,r7,r8,r9,r10,rfl,st,mem,laid⟩
   rw[lA,show ((C:Nat):Int).toNat=C by omega] at laid
   exact⟨L,done,_,_,_,_,_,rfl,st,mem,laid.row⟩
 ·rintro ρ Z ⟨L,done,r6,r7,r8,r9,r10,rfl,st,mem,laid⟩
  rw[lA,show ((R:Nat):Int).toNat=R by omega] at laid
  walk_at "rb"
  exact q f L Z hf' laid.done st.hf ⟨st.bag,st.keep⟩
end
noncomputable def Six(k:Nat)(x:N3):Prop:=∃A B:Int,Rep x A B 6/\A.natAbs<=k/\B.natAbs<=k
noncomputable def x8(d:Int)(x:N3):Prop:=Ok x/\Bd 6 x/\sg d x.a x.b=1/\Six 60 x
noncomputable def sQ:DSp:=fun ds U Q=>∃(a:Addr) (d way:Int),ds=[.m a,.v (.int d),.v (.int way)]/\aH d/\Bag U a/\∀x Z,x8 d x->Step a U Z->Q (.v (dN x)) Z
theorem E8{ds:List D}{U:Mu}{Q:DK}(h:sQ ds U Q):ds.length=3:=by obtain⟨_,_,_,rfl,_⟩:=h;rfl
noncomputable def tL:DSp:=fun ds U Q=>∃(a:Addr) (d:Int) (n:Nat),ds=[.m a,.v (.int d),.v (.int (n:Nat))]/\aH d/\Bag U a/\n<=60/\∀(ss:List N3) Z,ss.length=n->(∀s∈ss,x8 d s)->Step a U Z->Q (.v (.list (ss.map dN))) Z
theorem F0{ds:List D}{U:Mu}{Q:DK}(h:tL ds U Q):ds.length=3:=by obtain⟨_,_,_,rfl,_⟩:=h;rfl
noncomputable def CB:DSp:=fun ds U Q=>∃(d:Int) (ss:List N3),ds=[.v (.list (ss.map dN))]/\aH d/\ss.length<=60/\(∀s∈ss,x8 d s)/\∀f (xs:List N3) Z,U f=none->hZ U Z->eB d xs ss.length->(∀x∈xs,Six 3600 x)->Z f=some (xs.map dN)->Q (.m f) Z
noncomputable def DZ:DSp:=fun ds U Q=>∃(d:Int) (ss:List N3),ds=[.v (.list (ss.map dN))]/\aH d/\ss.length<=60/\(∀s∈ss,x8 d s)/\∀xs,eB d xs ss.length->(∀x∈xs,Six 3600 x)->Q (.v (.list (xs.map dN))) U
theorem E3{ds:List D}{U:Mu}{Q:DK}(h:CB ds U Q):ds.length=1:=by obtain⟨_,_,rfl,_⟩:=h;rfl
theorem AB{ds:List D}{U:Mu}{Qd:DK}(h:DZ ds U Qd):CB ds U (frz U Qd):=by
 obtain⟨d,ss,rfl,hd,l,g,q⟩:=h
 exact⟨d,ss,rfl,hd,l,g,fun f xs Z hf sb fi bd e=>⟨⟨hf,sb⟩,_,e,q xs fi bd⟩⟩
noncomputable def oI:DSp:=fun ds U Q=>∃(a:Addr) (xs:List PyData),ds=[.m a,.v (.list xs)]/\Bag U a/\xs.length<=900/\∀(zs:List PyData) Z,zs.Perm xs->jd a U Z->Q (.v (.list zs)) Z
theorem DF{ds:List D}{U:Mu}{Q:DK}(h:oI ds U Q):ds.length=2:=by obtain⟨_,_,rfl,_⟩:=h;rfl
noncomputable def xt:DSp:=fun ds U Q=>∃(a:Addr),ds=[.m a]/\Bag U a/\∀(C R:Nat) Z,0<C->0<R->C<=60->R<=60->C*R<=60->Step a U Z->Q (.v (.tuple [.int (C:Nat),.int (R:Nat)])) Z
theorem Gp{ds:List D}{U:Mu}{Q:DK}(h:xt ds U Q):ds.length=1:=by obtain⟨_,rfl,_⟩:=h;rfl
noncomputable def nH:DTS:=
 (aL (cA (dB (dOp (cU false) (ah 2) (dC (.int 0)))) (bo (bH (ag (bV (dC (.int 1)) (ax bD (ag (ah 0) (ag (dC (.int 6)) ar)))) (ag (dC (.int 0)) (ag (dC (.int 1)) ar))))) bG)
 (aL (cA (dB (dOp (cU false) (ah 2) (dC (.int 1)))) (bo (ax cE (ag (bV (dC (.int 1)) (ax bD (ag (ah 0) (ag (dC (.int 9)) ar)))) (ag (dC (.int 0)) (ag (bV (dC (.int 1)) (ax bD (ag (ah 0) (ag (dC (.int 3)) ar)))) ar))))) bG)
 (aL (bc (ax cE (ag (jY (ax bD (ag (ah 0) (ag (dC (.int 19)) ar))) (dC (.int 9))) (ag (jY (ax bD (ag (ah 0) (ag (dC (.int 9)) ar))) (dC (.int 4))) (ag (bV (dC (.int 1)) (ax bD (ag (ah 0) (ag (dC (.int 2)) ar)))) ar)))) (aq 3))
 (aL (bc (ax kJ (ag (ah 1) (ag (ah 3) ar))) (aq 4))
 (aL (cA (dB (dOp (cU false) (ah 4) (dC (.int 0)))) (bo (bH (ag (dC (.int 1)) (ag (dC (.int 1)) (ag (dC (.int 1)) ar))))) bG)
 (bo (dIf (dB (dOp rGt (ah 4) (dC (.int 0)))) (ah 3) (ax qh (ag (ah 3) ar)))))))))
noncomputable def kO:DTS:=
 (aL (bc (ax bD (ag (ah 0) (ag (dC (.int 4)) ar))) (aq 3))
 (aL (cA (dB (dOp (cU false) (ax bD (ag (ah 0) (ag (dC (.int 4)) ar))) (dC (.int 0)))) (bo (dOp Fj (pQ (ag (ax sQ (ag (ah 0) (ag (ah 1) (ag (ah 3) ar)))) ar)) (ah 2))) bG)
 (bo (ie [none,some 0,some 1,some 3] (k7 (ag (ah 2) ar)) (aq 0) iI (ax sQ (ag (ah 1) (ag (ah 2) (ag (ah 3) ar))))))))
noncomputable def mS:DTS:=
 (aL (bc (uT (ag (bH (ag (dC (.int 0)) (ag (dC (.int 0)) (ag (dC (.int 1)) ar)))) ar)) (aq 1))
 (aL (rH (fS (ah 0)) (aq 2) (j5 (G7 (ah 1) (ax ig (ag (dOp aF (ah 1) (yg (dC (.int 1)))) (ag (ah 2) ar))))))
 (bo (ah 1))))
noncomputable def kN:DTS:=
 (aL (bc (dCB DP (ag (ah 1) ar)) (aq 2))
 (bo (ie [none,some 2,some 0] (fS (ah 1)) (aq 0) iI (HY (ah 1) (ax bD (ag (ah 2) (ag (dCB cR (ag (ah 1) ar)) ar)))))))
noncomputable def fk:DTS:=
 (aL (bc (ax bD (ag (ah 0) (ag (dC (.int 16)) ar))) (aq 1))
 (aL (cA (dB (dOp (cU false) (ah 1) (dC (.int 0)))) (bo (dOp aF (pQ (ag (bH (ag (dC (.int 10)) (ag (dC (.int 6)) ar))) (ag (bH (ag (dC (.int 6)) (ag (dC (.int 10)) ar))) (ag (bH (ag (dC (.int 60)) (ag (dC (.int 1)) ar))) (ag (bH (ag (dC (.int 1)) (ag (dC (.int 60)) ar))) (ag (bH (ag (dC (.int 12)) (ag (dC (.int 5)) ar))) (ag (bH (ag (dC (.int 7)) (ag (dC (.int 8)) ar))) ar))))))) (ax bD (ag (ah 0) (ag (dC (.int 6)) ar))))) bG)
 (aL (cA (dB (dOp rLt (ah 1) (dC (.int 4)))) (bo (bH (ag (bV (dC (.int 1)) (ax bD (ag (ah 0) (ag (dC (.int 6)) ar)))) (ag (bV (dC (.int 1)) (ax bD (ag (ah 0) (ag (dC (.int 6)) ar)))) ar)))) bG)
 (bo (bH (ag (bV (dC (.int 1)) (ax bD (ag (ah 0) (ag (dC (.int 4)) ar)))) (ag (bV (dC (.int 1)) (ax bD (ag (ah 0) (ag (dC (.int 4)) ar)))) ar)))))))
section
variable {U:Mu}{Qd:DK}{ds:List D}
theorem Gd{a b c:Int}(ha:a.natAbs<64)(hb:b.natAbs<64)(hc:c.natAbs<64):Bd 6 ⟨a,b,c⟩:=⟨Sz.of ha,Sz.of hb,Sz.of hc⟩
theorem Mb{a b c:Int}(h:c≠0)(ha:a.natAbs<64)(hb:b.natAbs<64)(hc:c.natAbs<64):Bd 6 (low a b c):=nh h (Sz.of ha) (Sz.of hb) (Sz.of hc)
theorem Jh{d a:Int}(h:0<a):sg d a 0=1:=by
 unfold sg
 rw[if_neg ∅,if_pos ∅]
theorem MF{a:Int}:Ok ⟨a,0,1⟩:=by
 have:=eG a 0 (show (1:Int)≠0 by decide)
 have e:low a 0 1=⟨a,0,1⟩:=by
  obtain⟨k,_,hk,p1,p2,p3,_⟩:=oO a 0 (show (1:Int)≠0 by decide)
  have hk1:k=1:=Int.eq_one_of_mul_eq_one_right ∅ p3.symm
  subst hk1
  rw[Int.one_mul] at p1 p2 p3
  exact N3.ext' p1.symm p2.symm p3.symm
 rw[e] at this
 exact this
theorem rE{x:N3}{a b c m:Int}{k:Nat}(h:Rep x a b c)(e:c*m=6)(ha:(a*m).natAbs<=k)(hb:(b*m).natAbs<=k):Six k x:=by
 have hm:m≠0:=fun z=>by rw[z,Int.mul_zero] at e;cases e
 refine⟨a*m,b*m,⟨⋯,?_,?_⟩,ha,hb⟩
 ·have:=h.a;rw[<- e];grind
 ·have:=h.b;rw[<- e];grind
theorem NH{x y:N3}{k l:Nat}(ox:Ok x)(oy:Ok y)(h:Six k x)(g:Six l y):Six (k+l) (plus x y):=by
 obtain⟨A,B,r,ha,hb⟩:=h
 obtain⟨A',B',r',ha',hb'⟩:=g
 have z:=r.plus ox oy r'
 refine⟨A+A',B+B',⟨⋯,?_,?_⟩,∅,∅⟩
 ·exact Int.eq_of_mul_eq_mul_left (show (6:Int)≠0 by decide) (by have:=z.a;grind)
 ·exact Int.eq_of_mul_eq_mul_left (show (6:Int)≠0 by decide) (by have:=z.b;grind)
theorem xX{x:N3}{k:Nat}(ox:Ok x)(h:Six k x)(hk:k<=4000):Bd 12 x:=by
 obtain⟨A,B,r,ha,hb⟩:=h
 have e:x=low A B 6:=r.eq ox (eG _ _ ⋯) (cV ⋯) rfl rfl
 rw[e]
 exact nh ⋯ (Sz.of ∅) (Sz.of ∅) (Sz.of ⋯)
theorem FK{x:N3}{k:Nat}(ox:Ok x)(h:Six k x)(hk:k<=8000):Bd 13 x:=by
 obtain⟨A,B,r,ha,hb⟩:=h
 have e:x=low A B 6:=r.eq ox (eG _ _ ⋯) (cV ⋯) rfl rfl
 rw[e]
 exact nh ⋯ (Sz.of ∅) (Sz.of ∅) (Sz.of ⋯)
theorem EN{x y:N3}{k l:Nat}(ox:Ok x)(oy:Ok y)(h:Six k x)(g:Six l y):Six (k+l) (less x y):=by
 obtain⟨A,B,r,ha,hb⟩:=h
 obtain⟨A',B',r',ha',hb'⟩:=g
 have z:=r.less ox oy r'
 refine⟨A-A',B-B',⟨⋯,?_,?_⟩,∅,∅⟩
 ·exact Int.eq_of_mul_eq_mul_left (show (6:Int)≠0 by decide) (by have:=z.a;grind)
 ·exact Int.eq_of_mul_eq_mul_left (show (6:Int)≠0 by decide) (by have:=z.b;grind)
theorem K6{x:N3}{k:Nat}(h:Six k x):Six k (minus x):=by
 obtain⟨A,B,r,ha,hb⟩:=h
 exact⟨-A,-B,r.minus,∅,∅⟩
theorem Cf(h:sQ ds U Qd):nH ‹Qd› (aK ["_law_bag_here","_law_d","_law_way","_law_x","_law_sign_here"] ds) U:=by
 obtain⟨a,d,way,rfl,hd,hb,q⟩:=h
 unfold nH
 walk_at "rb"
 by_cases c0:way=0
 ·rw[gP (decide_eq_true c0)]
  walk_at "rb"
  refine⟨a,6,rfl,⋯,⋯,hb,fun r ad r0 r1 s1=>?_⟩
  walk_at "rb"
  exact q ⟨1+r,0,1⟩ ad ⟨MF,Gd ∅ ⋯ ⋯,show sg d (1+r) 0=1 from Jh ∅,rE (a:=1+r) (b:=0) (c:=1) (m:=6) ⟨⋯,rfl,rfl⟩ ⋯ ∅ ⋯⟩ s1
 rw[eN (by simpa using c0)]
 walk_at "rb"
 by_cases c1:way=1
 ·rw[gP (decide_eq_true c1)]
  walk_at "rb"
  refine⟨a,9,rfl,⋯,⋯,hb,fun r ad r0 r1 s1=>?_⟩
  walk_at "rb"
  refine⟨a,3,rfl,⋯,⋯,s1.1,fun r' am r0' r1' s2=>?_⟩
  walk_at "rb"
  refine⟨_,_,_,rfl,∅,Sz.mono (Sz.of (n:=6) ∅) ⋯,?_⟩
  walk_at "rb"
  refine q _ am ⟨eG _ _ ∅,Mb ∅ ∅ ⋯ ∅,?_,?_⟩ (s1.trans s2)
  ·rw[HP hd ∅]
   exact Jh ∅
  ·rcases (by omega:r'=0\/r'=1\/r'=2) with rfl|rfl|rfl
   ·exact rE (m:=6) (cV ⋯) ⋯ ∅ ⋯
   ·exact rE (m:=3) (cV ⋯) ⋯ ∅ ⋯
   ·exact rE (m:=2) (cV ⋯) ⋯ ∅ ⋯
 rw[eN (by simpa using c1)]
 walk_at "rb"
 refine⟨a,19,rfl,⋯,⋯,hb,fun r ad r0 r1 s1=>?_⟩
 walk_at "rb"
 refine⟨a,9,rfl,⋯,⋯,s1.1,fun r' am r0' r1' s2=>?_⟩
 walk_at "rb"
 refine⟨a,2,rfl,⋯,⋯,s2.1,fun r2 bi r02 r12 s3=>?_⟩
 have s13:=(s1.trans s2).trans s3
 walk_at "rb"
 refine⟨_,_,_,rfl,∅,Sz.mono (Sz.of (n:=6) ∅) ⋯,?_⟩
 have ox:Ok (low (r-9) (r'-4) (1+r2)):=eG _ _ ∅
 have bx:Bd 6 (low (r-9) (r'-4) (1+r2)):=Mb ∅ ∅ ∅ ∅
 have sx:Six 60 (low (r-9) (r'-4) (1+r2)):=by
  rcases (by omega:r2=0\/r2=1) with rfl|rfl
  ·exact rE (m:=6) (cV ⋯) ⋯ ∅ ∅
  ·exact rE (m:=3) (cV ⋯) ⋯ ∅ ∅
 generalize low (r-9) (r'-4) (1+r2)=x at ox bx sx
 walk_at "rb"
 refine⟨d,x,rfl,hd,bx.mono ⋯,?_⟩
 walk_at "rb"
 by_cases z:sg d x.a x.b=0
 ·rw[gP (decide_eq_true z)]
  walk_at "rb"
  exact q ⟨1,1,1⟩ bi ⟨⟨⋯,⋯⟩,Gd ⋯ ⋯ ⋯,by unfold sg;simp,rE (m:=6) (aJ ⟨⋯,⋯⟩) ⋯ ⋯ ⋯⟩ s13
 rw[eN (by simpa using z)]
 walk_at "rb"
 have tri:=oB d x.a x.b
 by_cases z1:sg d x.a x.b>0
 ·rw[gP (decide_eq_true z1)]
  walk_at "rb"
  exact q x bi ⟨ox,bx,∅,sx⟩ s13
 ·rw[eN (by simpa using z1)]
  walk_at "rb"
  refine⟨x,rfl,?_⟩
  walk_at "rb"
  refine q _ bi ⟨pD ox,xO bx,?_,K6 sx⟩ s13
  show sg d (-x.a) (-x.b)=1
  rw[Ad hd]
  omega
theorem ER{a p:Addr}{Z:Mu}(hb:Bag Z a)(hp:U p=none)(pa:a≠p)(k:∀b,b≠a->b≠p->Z b=U b):Step a U (lK Z p):=by
 obtain⟨g,m,e,r⟩:=hb
 refine⟨⟨g,m,by rw[gF pa];exact e,r⟩,fun b n=>?_⟩
 by_cases z:b=p
 ·rw[z,ia,hp]
 ·rw[gF z];exact k b n z
theorem rD{a p:Addr}(hb:Bag U a)(hp:U p=none):a≠p:=fun e=>by
 obtain⟨g,m,h,_⟩:=hb
 rw[e,hp] at h
 cases h
theorem LB{α:Type}(n:Nat)(x:α):(List.replicate n [x]).flatten=List.replicate n x:=by
 induction n with
 |zero=>rfl
 |succ n ih=>rw[replicate_succ,replicate_succ,flatten_cons,ih];rfl
theorem A1(h:tL ds U Qd):kO ‹Qd› (aK ["_law_bag_here","_law_d","_law_many","_law_way"] ds) U:=by
 obtain⟨a,d,n,rfl,hd,hb,n60,q⟩:=h
 unfold kO
 walk_at "rb"
 refine⟨a,4,rfl,⋯,⋯,hb,fun way ad _ _ s1=>?_⟩
 walk_at "rb"
 refine⟨a,4,rfl,⋯,⋯,s1.1,fun r am _ _ s2=>?_⟩
 have s12:=s1.trans s2
 walk_at "rb"
 by_cases c:r=0
 ·rw[gP (decide_eq_true c)]
  walk_at "rb"
  refine⟨a,d,way,rfl,hd,s2.1,fun x bi gx s3=>?_⟩
  walk_at "rb"
  refine⟨⟨∅,∅,∅⟩,?_⟩
  have:=q (List.replicate n x) bi (by rw[List.length_replicate]) (fun s hs=>by rw[(List.mem_replicate.mp hs).2];exact gx) (s12.trans s3)
  have e:(List.replicate (((n:Nat):Int).toNat) [dN x]).flatten=(List.replicate n x).map dN:=by
   rw[show ((n:Nat):Int).toNat=n by omega]
   exact LB n (dN x) |>.trans (by rw[List.map_replicate])
  rw[e]
  exact this
 ·rw[eN (by simpa using c)]
  walk_at "rb"
  rw[j8]
  walk_at "rb"
  refine⟨∅,by rw[lA];omega,fun p hp=>?_⟩
  have pa:=rD s2.1 hp
  refine⟨fun i acc Z=>∃ss:List N3,acc=ss.map dN/\ss.length=i/\(∀s∈ss,x8 d s)/\Bag Z a/\∀b,b≠a->b≠p->Z b=am b,⟨[],rfl,rfl,fun _ z=>absurd z not_mem_nil,s2.1.off pa,fun b _ n2=>aT n2⟩,?_,?_⟩
  ·rintro i x acc Z hx ha ⟨ss,rfl,hl,g,hb',k⟩
   walk_at "rb"
   refine⟨⟨trivial,trivial,trivial,trivial⟩,?_⟩
   rw[if_pos trivial]
   refine⟨a,d,way,rfl,hd,hb',fun x bi gx s3=>?_⟩
   walk_at "rb"
   refine⟨by rw[s3.2 p pa.symm];exact ha,ss++[x],by rw[map_append];rfl,by rw[length_append,hl];rfl,fun s hs=>?_,s3.1.off pa,fun b n1 n2=>by rw[aT n2,s3.2 b n1];exact k b n1 n2⟩
   rcases List.mem_append.mp hs with z|z
   ·exact g s z
   ·rw[List.mem_singleton.mp z];exact gx
  ·rintro acc Z ⟨ss,rfl,hl,g,hb',k⟩ ha
   rw[lA] at hl
   exact q ss _ ∅ g (s12.trans (ER hb' hp pa k))
theorem eB.snoc{d:Int}(hd:aH d){xs:List N3}{C:Nat}{l s:N3}(f:eB d xs C)(hl:xs.getLast? = some l)(os:Ok s)(ss:sg d s.a s.b=1):eB d (xs++[plus l s]) (C+1):=by
 have ne:xs≠[]:=fun e=>by rw[e] at hl;cases hl
 have l0:=List.length_pos_iff.mpr ne
 have lm:l∈xs:=yq hl
 have ol:=f.ok l lm
 refine⟨by rw[length_append,f.len];rfl,?_,fun x hx=>?_,?_⟩
 ·refine List.pairwise_append.mpr ⟨f.up,List.pairwise_singleton _ _,fun a ha b hb=>?_⟩
  rw[List.mem_singleton.mp hb]
  have e:dif d (plus l s) l=1:=by rw[Mi hd ol os];exact ss
  by_cases z:a=l
  ·rw[z];exact e
  ·refine lR hd (dP ol os) ol (f.ok a ha) e ?_
   obtain⟨i,hi,rfl⟩:=List.mem_iff_getElem.mp ha
   have el:=N0 hl ∅
   rw[<- el]
   refine List.pairwise_iff_getElem.mp f.up _ _ hi ∅ ?_
   rcases lt_or_ge i (xs.length-1) with y|y
   ·exact y
   ·exact absurd (by rw[<- el];congr 1;omega) z
 ·rcases List.mem_append.mp hx with z|z
  ·exact f.ok x z
  ·rw[List.mem_singleton.mp z];exact dP ol os
 ·rw[getElem?_append_left l0];exact f.zero
theorem Cj(h:CB ds U Qd):mS ‹Qd› (aK ["_law_sides_here","_law_found","_law_side_here"] ds) U:=by
 obtain⟨d,ss,rfl,hd,l60,gs,q⟩:=h
 unfold mS
 walk_at "rb"
 intro f hf
 rw[mi]
 walk_at "rb"
 refine⟨fun i ρ Z=>∃r2 xs,ρ=[some (.v (.list (ss.map dN))),some (.m f),r2]/\hZ U Z/\Z f=some (xs.map dN)/\eB d xs i/\(∀x∈xs,Six (60*i) x),⟨_,[ay],rfl,hZ.refl.set hf,by rw[aM];rfl,⟨rfl,List.pairwise_singleton _ _,fun x hx=>by rw[List.mem_singleton.mp hx];exact bN,rfl⟩,fun x hx=>by rw[List.mem_singleton.mp hx];exact⟨0,0,⟨⋯,rfl,rfl⟩,⋯,⋯⟩⟩,?_,?_⟩
 ·rintro i x ρ Z hx ⟨r2,xs,rfl,sb,hm,fi,bd⟩
  obtain⟨s,es,rfl⟩:=xC hx
  have hi:i<ss.length:=(List.getElem?_eq_some_iff.mp es).1
  obtain⟨os,bs,sgs,six⟩:=gs s (mem_of_getElem? es)
  have ne:xs≠[]:=fun e=>by have:=fi.len;rw[e] at this;cases this
  obtain⟨l,hl⟩:∃l,xs.getLast? = some l:=⟨xs.getLast ne,List.getLast?_eq_getLast ne⟩
  have ol:=fi.ok l (yq hl)
  have sl:=bd l (yq hl)
  have bl:=xX ol sl ∅
  walk_at "rb"
  rw[hm]
  dsimp only
  rw[tY hl]
  walk_at "rb"
  refine⟨l,s,rfl,ol,os,bl.mono ∅,bs.mono ⋯,?_⟩
  walk_at "rb"
  rw[hm]
  dsimp only
  refine⟨by rw[length_map,fi.len];omega,_,xs++[plus l s],rfl,sb.set hf,by rw[aM,map_append];rfl,fi.snoc hd hl os sgs,fun x hx=>?_⟩
  rcases List.mem_append.mp hx with z|z
  ·obtain⟨A,B,r,ha,hb⟩:=bd x z
   exact⟨A,B,r,∅,∅⟩
  ·rw[List.mem_singleton.mp z]
   exact NH ol os sl six
 ·rintro ρ Z ⟨r2,xs,rfl,sb,hm,fi,bd⟩
  rw[length_map] at fi bd
  walk_at "rb"
  exact q f xs Z hf sb fi (fun x hx=>by obtain⟨A,B,r,ha,hb⟩:=bd x hx;exact⟨A,B,r,∅,∅⟩) hm
theorem Ac{α:Type}:∀{l:List α} {i:Nat} {x:α},l[i]? = some x->(x::l.eraseIdx i).Perm l
 |[],i,x,h=>by cases h
 |y::l,0,x,h=>by cases h;exact .refl _
 |y::l,i+1,x,h=>by
  rw[List.eraseIdx_cons_succ]
  exact (List.Perm.swap _ _ _).trans ((Ac (l:=l) (i:=i) h).cons y)
theorem AN(h:oI ds U Qd):kN ‹Qd› (aK ["_law_bag_here","_law_row","_law_rest"] ds) U:=by
 obtain⟨a,xs,rfl,hb,l9,q⟩:=h
 unfold kN
 walk_at "rb"
 intro l hl
 have al:=rD hb hl
 walk_at "rb"
 rw[j8]
 walk_at "rb"
 refine⟨∅,fun p hp=>?_⟩
 have lp:l≠p:=fun e=>by rw[<- e,aM] at hp;cases hp
 have pa:a≠p:=rD (hb.off al) hp
 have hp':U p=none:=by rw[aT lp.symm] at hp;exact hp
 refine⟨fun i acc Z=>∃rest:List PyData,(acc++rest).Perm xs/\rest.length+i=xs.length/\Z l=some rest/\Bag Z a/\∀b,b≠a->b≠p->b≠l->Z b=U b,⟨xs,.refl _,rfl,by rw[aT lp,aM],(hb.off al).off pa,fun b n1 n2 n3=>by rw[aT n2,aT n3]⟩,?_,?_⟩
 ·rintro i x acc Z hx ha ⟨rest,pm,hl2,hr,hb',k⟩
  have hi:i<xs.length:=(List.getElem?_eq_some_iff.mp hx).1
  walk_at "rb"
  refine⟨⟨trivial,trivial,trivial⟩,?_⟩
  rw[if_pos trivial,hr]
  dsimp only
  refine⟨a,_,rfl,∅,∅,hb',fun r bi r0 r1 s3=>?_⟩
  walk_at "rb"
  rw[s3.2 l al.symm,hr]
  dsimp only
  have hrl:r.toNat<rest.length:=by omega
  refine⟨⟨r0,∅⟩,rest[r.toNat],getElem?_eq_getElem hrl,?_,rest.eraseIdx r.toNat,?_,?_,?_,?_,?_⟩
  ·rw[aT lp.symm,s3.2 p pa.symm];exact ha
  ·rw[append_assoc]
   exact ((Ac (getElem?_eq_getElem hrl)).append_left acc).trans pm
  ·rw[List.length_eraseIdx_of_lt hrl];omega
  ·rw[aT lp,aM]
  ·exact (s3.1.off al).off pa
  ·intro b n1 n2 n3
   rw[aT n2,aT n3,s3.2 b n1]
   exact k b n1 n2 n3
 ·rintro acc Z ⟨rest,pm,hl2,hr,hb',k⟩ ha
  have e:rest=[]:=List.eq_nil_of_length_eq_zero ∅
  rw[e,append_nil] at pm
  obtain⟨g,m,eb,rb⟩:=hb'
  refine q acc _ pm ⟨⟨g,m,by rw[gF pa];exact eb,rb⟩,fun b n1 ds eds=>?_⟩
  have n2:b≠p:=fun z=>by rw[z,hp'] at eds;cases eds
  have n3:b≠l:=fun z=>by rw[z,hl] at eds;cases eds
  rw[gF n2,k b n1 n2 n3]
  exact eds
theorem rB(h:xt ds U Qd):fk ‹Qd› (aK ["_law_bag_here","_law_draw"] ds) U:=by
 obtain⟨a,rfl,hb,q⟩:=h
 unfold fk
 walk_at "rb"
 refine⟨a,16,rfl,⋯,⋯,hb,fun r ad _ _ s1=>?_⟩
 walk_at "rb"
 by_cases c:r=0
 ·rw[gP (decide_eq_true c)]
  walk_at "rb"
  refine⟨a,6,rfl,⋯,⋯,s1.1,fun r' am r0 r1 s2=>?_⟩
  walk_at "rb"
  have hm:∃C R:Nat,atI [PyData.tuple [.int 10,.int 6],.tuple [.int 6,.int 10],.tuple [.int 60,.int 1],.tuple [.int 1,.int 60],.tuple [.int 12,.int 5],.tuple [.int 7,.int 8]] r'=some (.tuple [.int (C:Nat),.int (R:Nat)])/\0<C/\0<R/\C<=60/\R<=60/\C*R<=60:=by
   obtain⟨v,e,hm⟩:=sE (xs:=[PyData.tuple [.int 10,.int 6],.tuple [.int 6,.int 10],.tuple [.int 60,.int 1],.tuple [.int 1,.int 60],.tuple [.int 12,.int 5],.tuple [.int 7,.int 8]]) r0 (by exact r1)
   simp only[mem_cons,not_mem_nil,or_false] at hm
   rcases hm with rfl|rfl|rfl|rfl|rfl|rfl
   ·exact⟨10,6,e,⋯,⋯,⋯,⋯,⋯⟩
   ·exact⟨6,10,e,⋯,⋯,⋯,⋯,⋯⟩
   ·exact⟨60,1,e,⋯,⋯,⋯,⋯,⋯⟩
   ·exact⟨1,60,e,⋯,⋯,⋯,⋯,⋯⟩
   ·exact⟨12,5,e,⋯,⋯,⋯,⋯,⋯⟩
   ·exact⟨7,8,e,⋯,⋯,⋯,⋯,⋯⟩
  obtain⟨C,R,e,h1,h2,h3,h4,h5⟩:=hm
  rw[e]
  exact q C R am h1 h2 h3 h4 h5 (s1.trans s2)
 rw[eN (by simpa using c)]
 walk_at "rb"
 have two:∀(r1 r2:Int) (Z:Mu),0<=r1->r1<6->0<=r2->r2<6->Step a U Z->Qd (.v (.tuple [.int (1+r1),.int (1+r2)])) Z:=fun r1 r2 Z a0 a1 b0 b1 st=>by
  obtain⟨C,hC⟩:∃C:Nat,1+r1=(C:Int):=⟨(1+r1).toNat,∅⟩
  obtain⟨R,hR⟩:∃R:Nat,1+r2=(R:Int):=⟨(1+r2).toNat,∅⟩
  rw[hC,hR]
  refine q C R Z ∅ ∅ ∅ ∅ ?_ st
  have:C*R<=6*6:=mul_le_mul ∅ ∅
  omega
 by_cases c4:r<4
 ·rw[gP (decide_eq_true c4)]
  walk_at "rb"
  refine⟨a,6,rfl,⋯,⋯,s1.1,fun r1 am r0 r1' s2=>?_⟩
  walk_at "rb"
  refine⟨a,6,rfl,⋯,⋯,s2.1,fun r2 bi r02 r12 s3=>?_⟩
  walk_at "rb"
  exact two r1 r2 bi r0 r1' r02 r12 ((s1.trans s2).trans s3)
 ·rw[eN (by simpa using c4)]
  walk_at "rb"
  refine⟨a,4,rfl,⋯,⋯,s1.1,fun r1 am r0 r1' s2=>?_⟩
  walk_at "rb"
  refine⟨a,4,rfl,⋯,⋯,s2.1,fun r2 bi r02 r12 s3=>?_⟩
  walk_at "rb"
  exact two r1 r2 bi r0 ∅ r02 ∅ ((s1.trans s2).trans s3)
end
structure HS(d:Int)(xs ys:List N3)(C R:Nat)(qs:List GR.Bx):Prop where
 fx:eB d xs C
 fy:eB d ys R
 c0:0<C
 r0:0<R
 c60:C<=60
 r60:R<=60
 cr:C*R<=60
 bx:∀x∈xs,Six 3600 x
 by_:∀y∈ys,Six 3600 y
 cov:GR.gO qs C R
noncomputable def Drawn(d:Int)(t:PyData):Prop:=∃xs ys C R qs,HS d xs ys C R qs/\t=cH (xs.getD C ay) (ys.getD R ay) (qs.map (eC xs ys))
noncomputable def jR:DSp:=fun ds U Q=>∃(a:Addr),ds=[.m a]/\Bag U a/\∀(C R:Nat) qs Z,0<C->0<R->C<=4->R<=4->GR.gO qs C R->Step a U Z->Q (.v (.tuple [.int (C:Nat),.int (R:Nat),.list (qs.map bxD)])) Z
theorem yQ{ds:List D}{U:Mu}{Q:DK}(h:jR ds U Q):ds.length=1:=by obtain⟨_,rfl,_⟩:=h;rfl
noncomputable def oZ:DSp:=fun ds U Q=>∃(a:Addr) (d:Int) (C R:Nat) (qs:List GR.Bx),ds=[.m a,.v (.int d),.v (.int (C:Nat)),.v (.int (R:Nat)),.v (.list (qs.map bxD))]/\aH d/\Bag U a/\0<C/\0<R/\C<=60/\R<=60/\C*R<=60/\GR.gO qs C R /\
 ∀t Z,Drawn d t->jd a U Z->Q (.v t) Z
theorem CJ{ds:List D}{U:Mu}{Q:DK}(h:oZ ds U Q):ds.length=5:=by obtain⟨_,_,_,_,_,rfl,_⟩:=h;rfl
noncomputable def pR:DSp:=fun ds U Q=>∃(a:Addr) (d:Int),ds=[.m a,.v (.int d)]/\aH d/\Bag U a/\∀t Z,Drawn d t->jd a U Z->Q (.v t) Z
theorem AL{ds:List D}{U:Mu}{Q:DK}(h:pR ds U Q):ds.length=2:=by obtain⟨_,_,rfl,_⟩:=h;rfl
noncomputable def mD:DTS:=
 (bo (ax ig (ag (ah 0) (ag (ax qh (ag (ah 1) ar)) ar))))
noncomputable def g9:DTS:=
 (aL (bc (bH (ag (bV (dC (.int 1)) (ax bD (ag (ah 0) (ag (dC (.int 2)) ar)))) (ag (bV (dC (.int 1)) (ax bD (ag (ah 0) (ag (dC (.int 2)) ar)))) ar))) (cC 2 (aC (aq 1) (aC (aq 2) cF))))
 (aL (bc (pQ (ag (bH (ag (dC (.int 0)) (ag (dC (.int 0)) (ag (bV (ah 1) (dC (.int 1))) (ag (dC (.int 1)) ar))))) (ag (bH (ag (bV (ah 1) (dC (.int 1))) (ag (dC (.int 0)) (ag (dC (.int 1)) (ag (bV (ah 2) (dC (.int 1))) ar))))) (ag (bH (ag (dC (.int 1)) (ag (bV (ah 2) (dC (.int 1))) (ag (bV (ah 1) (dC (.int 1))) (ag (dC (.int 1)) ar))))) (ag (bH (ag (dC (.int 0)) (ag (dC (.int 1)) (ag (dC (.int 1)) (ag (bV (ah 2) (dC (.int 1))) ar))))) (ag (bH (ag (dC (.int 1)) (ag (dC (.int 1)) (ag (ah 1) (ag (ah 2) ar))))) ar)))))) (aq 3))
 (aL (cA (dB (dOp (cU false) (ax bD (ag (ah 0) (ag (dC (.int 2)) ar))) (dC (.int 0)))) (bc (ie [none,none,none,none,some 1] (fS (ah 3)) (cC 4 (aC (aq 0) (aC (aq 1) (aC (aq 2) (aC (aq 3) cF))))) iI (bH (ag (jY (jY (bV (ah 4) (dC (.int 2))) (ah 0)) (ah 2)) (ag (ah 1) (ag (ah 2) (ag (ah 3) ar)))))) (aq 3)) bG)
 (bo (bH (ag (bV (ah 1) (dC (.int 2))) (ag (bV (ah 2) (dC (.int 2))) (ag (ah 3) ar))))))))
noncomputable def kW:DTS:=
 (aL (wV 5 6 (ag (ax DZ (ag (ax tL (ag (ah 0) (ag (ah 1) (ag (ah 2) ar)))) ar)) (ag (ax DZ (ag (ax tL (ag (ah 0) (ag (ah 1) (ag (ah 3) ar)))) ar)) ar)))
 (aL (bc (uT ar) (aq 7))
 (aL (rH (fS (ax oI (ag (ah 0) (ag (ah 4) ar)))) (cC 4 (aC (aq 8) (aC (aq 9) (aC (aq 10) (aC (aq 11) cF))))) (aL (wV 12 13 (ag (ax rN (ag (dOp aF (ah 5) (bV (ah 8) (ah 10))) (ag (dOp aF (ah 5) (ah 8)) ar))) (ag (ax rN (ag (dOp aF (ah 6) (bV (ah 9) (ah 11))) (ag (dOp aF (ah 6) (ah 9)) ar))) ar)))
 (j5 (G7 (ah 7) (bH (ag (dOp aF (ah 5) (ah 8)) (ag (dOp aF (ah 6) (ah 9)) (ag (ah 12) (ag (ah 13) ar)))))))))
 (bo (bH (ag (dOp aF (ah 5) (yg (dC (.int 1)))) (ag (dOp aF (ah 6) (yg (dC (.int 1)))) (ag (dCB en (ag (ah 7) ar)) ar))))))))
noncomputable def jI:DTS:=
 (aL (cA (dB (dOp (cU false) (ax bD (ag (ah 0) (ag (dC (.int 5)) ar))) (dC (.int 0)))) (aL (bc (ax jR (ag (ah 0) ar)) (cC 3 (aC (aq 2) (aC (aq 3) (aC (aq 4) cF)))))
 (bo (ax oZ (ag (ah 0) (ag (ah 1) (ag (ah 2) (ag (ah 3) (ag (ah 4) ar)))))))) bG)
 (aL (bc (ax xt (ag (ah 0) ar)) (cC 2 (aC (aq 2) (aC (aq 3) cF))))
 (bo (ax oZ (ag (ah 0) (ag (ah 1) (ag (ah 2) (ag (ah 3) (ag (ax uh (ag (ah 0) (ag (ah 2) (ag (ah 3) ar)))) ar)))))))))
section
variable {U:Mu}{Qd:DK}{ds:List D}
theorem vc{qs:List GR.Bx}{C R:Nat}(h1:qs.all (fun q=>decide (q.l<q.r)&&(decide (q.r<=C)&&(decide (q.b<q.t)&&decide (q.t<=R))))=true)(h2:GR.vg qs C R=true):GR.gO qs C R:=by
 have f:∀q∈qs,q.l<q.r/\q.r<=C/\q.b<q.t/\q.t<=R:=fun q hq=>by
  have:=List.all_eq_true.mp h1 q hq
  simp only[and_eq_true,decide_eq_true_iff] at this
  exact this
 obtain⟨a,b⟩:=(GR.Gm fun q hq=>⟨(f q hq).2.1,(f q hq).2.2.2⟩).mp h2
 exact⟨f,a,b⟩
noncomputable def qsP(a b:Nat):List GR.Bx:=[⟨0,a+1,0,1⟩,⟨a+1,a+2,0,b+1⟩,⟨1,a+2,b+1,b+2⟩,⟨0,1,1,b+2⟩,⟨1,a+1,1,b+1⟩]
noncomputable def mir(A:Nat)(q:GR.Bx):GR.Bx:=⟨A-q.r,A-q.l,q.b,q.t⟩
theorem T6:∀a b:Nat,a=1\/a=2->b=1\/b=2->GR.gO (qsP a b) (a+2) (b+2)/\GR.gO ((qsP a b).map (mir (a+2))) (a+2) (b+2):=by
 rintro a b (rfl|rfl) (rfl|rfl)<;>exact⟨vc ⋯ ⋯,vc ⋯ ⋯⟩
theorem SU{A:Nat}{q:GR.Bx}(h:q.l<q.r/\q.r<=A):PyData.tuple [.int (((A:Nat):Int)-(q.l:Nat)-((q.r-q.l:Nat):Int)),.int (q.b:Nat),.int ((q.r-q.l:Nat):Int),.int ((q.t-q.b:Nat):Int)]=bxD (mir A q):=by
 unfold bxD mir
 dsimp only
 rw[show ((A:Nat):Int)-(q.l:Nat)-((q.r-q.l:Nat):Int)=((A-q.r:Nat):Int) by omega,show A-q.l-(A-q.r)=q.r-q.l by omega]
theorem Ey(h:rN ds U Qd):mD ‹Qd› (aK ["_law_x","_law_y"] ds) U:=by
 obtain⟨x,y,rfl,ox,oy,bx,by_,q⟩:=h
 unfold mD
 walk_at "rn"
 refine⟨y,rfl,x,minus y,rfl,ox,pD oy,bx.mono ⋯,(xO by_).mono ⋯,?_⟩
 have e:plus x (minus y)=less x y:=Rep.eq (dP ox (pD oy)) (dm ox oy) ((aJ ox).plus ox (pD oy) (aJ oy).minus) ((aJ ox).less ox oy (aJ oy)) (by grind) (by grind)
 rw[e]
 exact q
theorem u5(h:jR ds U Qd):g9 ‹Qd› (aK ["_law_bag_here","_law_a","_law_b","_law_found"] ds) U:=by
 obtain⟨a,rfl,hb,q⟩:=h
 unfold g9
 walk_at "rb"
 refine⟨a,2,rfl,⋯,⋯,hb,fun r1 ad r10 r11 s1=>?_⟩
 walk_at "rb"
 refine⟨a,2,rfl,⋯,⋯,s1.1,fun r2 am r20 r21 s2=>?_⟩
 have s12:=s1.trans s2
 walk_at "rb"
 obtain⟨A,hA⟩:∃A:Nat,1+r1=(A:Int):=⟨(1+r1).toNat,∅⟩
 obtain⟨B,hB⟩:∃B:Nat,1+r2=(B:Int):=⟨(1+r2).toNat,∅⟩
 rw[hA,hB]
 have A12:A=1\/A=2:=by omega
 have B12:B=1\/B=2:=by omega
 obtain⟨cv1,cv2⟩:=T6 A B A12 B12
 refine⟨trivial,?_⟩
 refine⟨a,2,rfl,⋯,⋯,s2.1,fun r3 bi r30 r31 s3=>?_⟩
 have s13:=s12.trans s3
 walk_at "rb"
 have e0:[PyData.tuple [.int 0,.int 0,.int ((A:Nat)+1),.int 1],.tuple [.int ((A:Nat)+1),.int 0,.int 1,.int ((B:Nat)+1)],.tuple [.int 1,.int ((B:Nat)+1),.int ((A:Nat)+1),.int 1],.tuple [.int 0,.int 1,.int 1,.int ((B:Nat)+1)],.tuple [.int 1,.int 1,.int (A:Nat),.int (B:Nat)]]=(qsP A B).map bxD:=by
  rcases A12 with rfl|rfl<;>rcases B12 with rfl|rfl<;>rfl
 rw[e0]
 by_cases c:r3=0
 ·rw[gP (decide_eq_true c)]
  walk_at "rb"
  rw[j8]
  walk_at "rb"
  refine⟨by rw[length_map];exact (by decide:(5:Nat)<=1000),fun p hp=>⟨fun i acc Z=>acc=((qsP A B).take i).map (fun q=>bxD (mir (A+2) q))/\Z=aR bi p acc,⟨rfl,rfl⟩,?_,?_⟩⟩
  ·rintro i x acc Z hx ha ⟨e1,e2⟩
   obtain⟨b,eb,rfl⟩:=xC hx
   have fb:=cv1.fits b (mem_of_getElem? eb)
   rw[show bxD b = .tuple [.int (b.l:Nat),.int (b.b:Nat),.int ((b.r-b.l:Nat):Int),.int ((b.t-b.b:Nat):Int)] from rfl]
   walk_at "rb"
   simp only[true_and,and_true,↓reduceIte]
   rw[show ((A:Nat):Int)+2=((A+2:Nat):Int) by omega,SU ⟨fb.1,fb.2.1⟩]
   refine⟨ha,?_,?_⟩
   ·rw[e1,take_snoc eb,map_append];rfl
   ·rw[e2,ic]
  ·rintro acc Z ⟨e1,e2⟩ ha
   rw[length_map,take_length] at e1
   subst e1
   rw[e2,p5 hp]
   have:=q (A+2) (B+2) _ bi ∅ ∅ ∅ ∅ cv2 s13
   rw[map_map] at this
   exact this
 ·rw[eN (by simpa using c)]
  walk_at "rb"
  have:=q (A+2) (B+2) _ bi ∅ ∅ ∅ ∅ cv1 s13
  exact this
theorem Fo{α β:Type}{f:α->β}{zs m:List β}(h:zs.Perm m):∀{qs:List α},m=qs.map f->∃ps:List α,zs=ps.map f/\ps.Perm qs:=by
 induction h with
 |nil=>
  intro qs e
  cases qs with
  |nil=>exact⟨[],rfl,.refl _⟩
  |cons q qs=>cases e
 |cons x h ih=>
  intro qs e
  cases qs with
  |nil=>cases e
  |cons q qs=>
   rw[map_cons] at e
   injection e with e1 e2
   obtain⟨ps,e3,pm⟩:=ih e2
   exact⟨q::ps,by rw[map_cons,e1,e3],pm.cons q⟩
 |swap x y l=>
  intro qs e
  match qs,e with
  |a::b::rest,e=>
   rw[map_cons,map_cons] at e
   injection e with e1 e2
   injection e2 with e2 e3
   exact⟨b::a::rest,by rw[map_cons,map_cons,e1,e2,e3],.swap _ _ _⟩
 |trans h1 h2 ih1 ih2=>
  intro qs e
  obtain⟨ps,e3,pm⟩:=ih2 e
  obtain⟨ps',e4,pm'⟩:=ih1 e3
  exact⟨ps',e4,pm'.trans pm⟩
theorem at_getD{xs:List N3}{i:Nat}(h:i<xs.length):atI (xs.map dN) (i:Int)=some (dN (xs.getD i ay)):=by
 rw[getD_at h]
 exact xN (getElem?_eq_getElem h)
theorem Bo{d:Int}{xs:List N3}{C:Nat}(f:eB d xs C):xs.getLast? = some (xs.getD C ay):=by
 rw[List.getLast?_eq_getElem?,f.len,Nat.add_sub_cancel,getElem?_eq_getElem (f.at (Nat.le_refl _)),getD_at]
theorem Aq(h:oZ ds U Qd):kW ‹Qd› (aK ["_law_bag_here","_law_d","_law_columns","_law_rows","_law_blocks_here","_law_xs","_law_ys","_law_tiles","_law_column","_law_row","_law_wide","_law_high","_law_width","_law_height"] ds) U:=by
 obtain⟨a,d,C,R,qs,rfl,hd,hb,c0,r0,c60,r60,cr,cov,q⟩:=h
 unfold kW
 walk_at "rb"
 refine⟨a,d,C,rfl,hd,hb,c60,fun sx ad lx gx s1=>?_⟩
 walk_at "rb"
 refine⟨d,sx,rfl,hd,∅,gx,fun xs fx bx=>?_⟩
 rw[lx] at fx
 walk_at "rb"
 refine⟨a,d,R,rfl,hd,s1.1,r60,fun sy am ly gy s2=>?_⟩
 walk_at "rb"
 refine⟨d,sy,rfl,hd,∅,gy,fun ys fy by_=>?_⟩
 rw[ly] at fy
 have s12:=(s1.trans s2).w
 walk_at "rb"
 intro f hf
 have af:=rD s2.1 hf
 rw[mi]
 walk_at "rb"
 have lq:qs.length<=C*R:=qd cov.fits cov.apart
 refine⟨a,_,rfl,s2.1.off af,by rw[length_map];omega,fun zs bi pm s3=>?_⟩
 obtain⟨ps,rfl,pp⟩:=Fo pm rfl
 have covp:=cov.perm pp
 have lp:ps.length=qs.length:=pp.length_eq
 walk_at "rb"
 have keep:∀b,b≠a->∀es,U b=some es->b≠f/\bi b=some es:=fun b n es e=>by
  have e2:=s12.2 b n es e
  have bf:b≠f:=fun z=>by rw[z,hf] at e2;cases e2
  exact⟨bf,s3.2 b n es (by rw[aT bf];exact e2)⟩
 refine⟨fun i ρ Z=>∃r8 r9 r10 r11 r12 r13,ρ=[some (.m a),some (.v (.int d)),some (.v (.int (C:Nat))),some (.v (.int (R:Nat))),some (.v (.list (qs.map bxD))),some (.v (.list (xs.map dN))),some (.v (.list (ys.map dN))),some (.m f),r8,r9,r10,r11,r12,r13]/\Bag Z a/\(∀b,b≠a->∀es,U b=some es->Z b=some es)/\Z f=some ((ps.take i).map fun q=>tlD (eC xs ys q)),⟨_,_,_,_,_,_,rfl,s3.1,fun b n es e=>(keep b n es e).2,s3.2 f af.symm _ aM⟩,?_,?_⟩
 ·rintro i x ρ Z hx ⟨r8,r9,r10,r11,r12,r13,rfl,hb',kp,hf'⟩
  obtain⟨b,eb,rfl⟩:=xC hx
  have hi:i<ps.length:=(List.getElem?_eq_some_iff.mp eb).1
  have fb:=covp.fits b (mem_of_getElem? eb)
  rw[show bxD b = .tuple [.int (b.l:Nat),.int (b.b:Nat),.int ((b.r-b.l:Nat):Int),.int ((b.t-b.b:Nat):Int)] from rfl]
  walk_at "rb"
  rw[show ((b.l:Nat):Int)+((b.r-b.l:Nat):Int)=((b.r:Nat):Int) by omega]
  have g:∀{j},j<=C->Bd 12 (xs.getD j ay):=fun h=>by rw[getD_at (fx.at h)];exact xX (fx.ok _ (getElem_mem _)) (bx _ (getElem_mem _)) ⋯
  have g':∀{j},j<=R->Bd 12 (ys.getD j ay):=fun h=>by rw[getD_at (fy.at h)];exact xX (fy.ok _ (getElem_mem _)) (by_ _ (getElem_mem _)) ⋯
  refine⟨trivial,?_⟩
  rw[at_getD (fx.at (show b.r<=C by omega)),at_getD (fx.at (show b.l<=C by omega))]
  dsimp only
  refine⟨_,_,rfl,fx.bI ∅,fx.bI ∅,(g ∅).mono ⋯,(g ∅).mono ⋯,?_⟩
  walk_at "rb"
  rw[show ((b.b:Nat):Int)+((b.t-b.b:Nat):Int)=((b.t:Nat):Int) by omega]
  rw[at_getD (fy.at (show b.t<=R by omega)),at_getD (fy.at (show b.b<=R by omega))]
  dsimp only
  refine⟨_,_,rfl,fy.bI ∅,fy.bI ∅,(g' ∅).mono ⋯,(g' ∅).mono ⋯,?_⟩
  walk_at "rb"
  rw[at_getD (fx.at (show b.l<=C by omega)),at_getD (fy.at (show b.b<=R by omega))]
  rw[hf']
  dsimp only
  have lt:(ps.take i).length<=60:=by rw[length_take];omega
  refine⟨by rw[length_map];omega,_,_,_,_,_,_,rfl,hb'.off af,fun c n es e=>?_,?_⟩
  ·rw[aT (keep c n es e).1];exact kp c n es e
  ·rw[aM,take_snoc eb,map_append];rfl
 ·rintro ρ Z ⟨r8,r9,r10,r11,r12,r13,rfl,hb',kp,hf'⟩
  rw[length_map,take_length] at hf'
  walk_at "rb"
  rw[tY (Bo fx),tY (Bo fy)]
  walk_at "rb"
  rw[hf']
  dsimp only
  refine q _ Z ⟨xs,ys,C,R,ps,⟨fx,fy,c0,r0,c60,r60,cr,bx,by_,covp⟩,?_⟩ ⟨hb',kp⟩
  unfold cH
  rw[map_map]
  rfl
theorem yC(h:pR ds U Qd):jI ‹Qd› (aK ["_law_bag_here","_law_d","_law_columns","_law_rows","_law_blocks_here"] ds) U:=by
 obtain⟨a,d,rfl,hd,hb,q⟩:=h
 unfold jI
 walk_at "rb"
 refine⟨a,5,rfl,⋯,⋯,hb,fun r ad _ _ s1=>?_⟩
 walk_at "rb"
 by_cases c:r=0
 ·rw[gP (decide_eq_true c)]
  walk_at "rb"
  refine⟨a,rfl,s1.1,fun C R qs am c0 r0 c4 r4 cov s2=>?_⟩
  walk_at "rb"
  have:C*R<=4*4:=mul_le_mul c4 r4
  refine⟨trivial,a,d,C,R,qs,rfl,hd,s2.1,c0,r0,∅,∅,∅,cov,fun t bi dr s3=>?_⟩
  walk_at "rb"
  exact q t bi dr ((s1.trans s2).w.trans s3)
 ·rw[eN (by simpa using c)]
  walk_at "rb"
  refine⟨a,rfl,s1.1,fun C R am c0 r0 c60 r60 cr s2=>?_⟩
  walk_at "rb"
  refine⟨trivial,a,C,R,rfl,c0,r0,c60,r60,∅,s2.1,fun qs bi cov s3=>?_⟩
  walk_at "rb"
  refine⟨a,d,C,R,qs,rfl,hd,s3.1,c0,r0,c60,r60,cr,cov,fun t ge dr s4=>?_⟩
  walk_at "rb"
  exact q t ge dr (((s1.trans s2).w.trans s3).trans s4)
end
noncomputable def uq(n:Nat)(t:PyData):Prop:=Few t/\∀x,t=dN x->Bd n x
noncomputable def Tr(z:PyData):Prop:=∀a b c e,z≠.tuple [a,b,c,e]
noncomputable def OX(k:Nat)(ts:List Tl):Prop:=∃X Y:List N3,(∀t∈ts,OnM X Y t)/\X.length<=61+2*k/\Y.length<=61+2*k
noncomputable def OC(k n:Nat)(t:PyData):Prop:=Me t/\∀w h ts,t=cH w h ts->Bd n w/\Bd n h/\(∀t∈ts,Bd4 n t)/\OX k ts
structure TOk(t:Tl):Prop where
 x:Ok t.x
 y:Ok t.y
 w:Ok t.w
 h:Ok t.h
structure Ml(k n:Nat)(w h:N3)(ts:List Tl):Prop where
 ow:Ok w
 oh:Ok h
 bw:Bd n w
 bh:Bd n h
 ok:∀t∈ts,TOk t
 bd:∀t∈ts,Bd4 n t
 l1:1<=ts.length
 l60:ts.length<=60
 RX:OX k ts
section
variable {U:Mu}{Qd:DK}{ds:List D}
theorem uq.part{n:Nat}{t:PyData}(h:uq n t)(l:n<=4400):xM t:=⟨h.1,fun x e=>(h.2 x e).mono l⟩
theorem vB{n:Nat}{x:N3}(b:Bd n x):uq n (dN x):=⟨Qt,fun y e=>by rw[<- oA e];exact b⟩
theorem OnM.mono{X Y X' Y':List N3}{t:Tl}(h:OnM X Y t)(hx:∀x∈X,x∈X')(hy:∀y∈Y,y∈Y'):OnM X' Y' t:=⟨hx _ h.l,hx _ h.r,hy _ h.b,hy _ h.t⟩
theorem MI{ts:List Tl}(ys:List PyData):∀{X Y:List N3},(∀t∈ts,OnM X Y t)->∃X' Y':List N3,X'.length<=X.length+2*ys.length/\Y'.length<=Y.length+2*ys.length/\(∀t∈ts,OnM X' Y' t)/\∀u,tlD u∈ys->OnM X' Y' u:=by
 induction ys with
 |nil=>intro X Y on;exact⟨X,Y,Nat.le_refl _,Nat.le_refl _,on,fun u h=>absurd h not_mem_nil⟩
 |cons y ys ih=>
  intro X Y on
  obtain⟨X',Y',lx,ly,on',onu⟩:=ih on
  by_cases c:∃u,y=tlD u
  ·obtain⟨u,rfl⟩:=c
   have mx:∀x∈X',x∈u.x::plus u.x u.w::X':=fun x h=>mem_cons_of_mem _ (mem_cons_of_mem _ h)
   have my:∀x∈Y',x∈u.y::plus u.y u.h::Y':=fun x h=>mem_cons_of_mem _ (mem_cons_of_mem _ h)
   refine⟨u.x::plus u.x u.w::X',u.y::plus u.y u.h::Y',?_,?_,fun t ht=>(on' t ht).mono mx my,fun v hv=>?_⟩
   ·simp only[length_cons];omega
   ·simp only[length_cons];omega
   ·rcases List.mem_cons.mp hv with e|e
    ·rw[xm e]
     exact⟨mem_cons_self,mem_cons_of_mem _ mem_cons_self,mem_cons_self,mem_cons_of_mem _ mem_cons_self⟩
    ·exact (onu v e).mono mx my
  ·refine⟨X',Y',?_,?_,on',fun v hv=>?_⟩
   ·simp only[length_cons];omega
   ·simp only[length_cons];omega
   ·rcases List.mem_cons.mp hv with e|e
    ·exact absurd ⟨v,e.symm⟩ c
    ·exact onu v e
noncomputable def Lx(n:Nat)(y:PyData):Prop:=∀a b c e,y = .tuple [a,b,c,e]->uq n a/\uq n b/\uq n c/\uq n e
theorem NP{n:Nat}{t:Tl}(h:Bd4 n t):Lx n (tlD t):=fun a b c e z=>by
 unfold tlD at z
 simp only[PyData.tuple.injEq,List.cons.injEq,and_true] at z
 obtain⟨rfl,rfl,rfl,rfl⟩:=z
 exact⟨vB h.x,vB h.y,vB h.w,vB h.h⟩
theorem SD{n:Nat}{y:PyData}(h:Lx n y){u:Tl}(e:y=tlD u):Bd4 n u:=by
 obtain⟨a,b,c,d⟩:=h _ _ _ _ e
 exact⟨a.2 _ rfl,b.2 _ rfl,c.2 _ rfl,d.2 _ rfl⟩
theorem MV{n:Nat}{y:PyData}(h:Tr y):Lx n y:=fun a b c e z=>absurd z (h a b c e)
theorem OL{k n:Nat}{ts:List Tl}(hn:n<=4400)(g:OX k ts)(bd:∀t∈ts,Bd4 n t){a b c:PyData}(pa:uq n a)(pb:uq n b)(ys:List PyData)(hy:∀y∈ys,Lx n y)
  (hc:∀zs,c = .tuple zs->zs.length<=1000/\∀z∈zs,(∃t∈ts,z=tlD t)\/z∈ys\/Tr z):OC (k+ys.length) n (.tuple [a,b,c]):=by
 constructor
 ·intro a' b' c' e
  simp only[PyData.tuple.injEq,List.cons.injEq,and_true] at e
  obtain⟨rfl,rfl,rfl⟩:=e
  refine⟨pa.part hn,pb.part hn,fun zs ez=>⟨(hc zs ez).1,fun z hz=>?_⟩⟩
  have:Lx n z:=by
   rcases (hc zs ez).2 z hz with ⟨t,ht,rfl⟩|h|h
   ·exact NP (bd t ht)
   ·exact hy z h
   ·exact MV h
  exact fun a b c e h=>by
   obtain⟨h1,h2,h3,h4⟩:=this a b c e h
   exact⟨h1.part hn,h2.part hn,h3.part hn,h4.part hn⟩
 ·intro w h us e
  unfold cH at e
  simp only[PyData.tuple.injEq,List.cons.injEq,and_true] at e
  obtain⟨rfl,rfl,rfl⟩:=e
  have mem:∀u∈us,u∈ts\/tlD u∈ys:=fun u hu=>by
   rcases (hc _ rfl).2 _ (mem_map_of_mem hu) with ⟨t,ht,e⟩|h|h
   ·exact .inl (xm e▸ht)
   ·exact .inr h
   ·exact absurd rfl (h _ _ _ _)
  obtain⟨X,Y,on,lx,ly⟩:=g
  obtain⟨X',Y',lx',ly',on',onu⟩:=MI ys on
  refine⟨pa.2 _ rfl,pb.2 _ rfl,fun u hu=>?_,X',Y',fun u hu=>?_,∅,∅⟩
  ·rcases mem u hu with z|z
   ·exact bd u z
   ·exact SD (hy _ z) rfl
  ·rcases mem u hu with z|z
   ·exact on' u z
   ·exact onu u z
theorem OC.p{k n:Nat}{t:PyData}(h:OC k n t)(hk:k<=10)(hn:n<=2100):PN t:=by
 refine⟨h.1,fun w k' ts e=>?_⟩
 obtain⟨h1,h2,h3,X,Y,on,lx,ly⟩:=h.2 w k' ts e
 refine⟨h1.mono hn,h2.mono hn,fun t ht=>⟨(h3 t ht).x.mono hn,(h3 t ht).y.mono hn,(h3 t ht).w.mono hn,(h3 t ht).h.mono hn⟩,X,Y,on,∅,∅,?_⟩
 exact le_trans (mul_le_mul (show X.length<=81 by omega) (show Y.length<=81 by omega)) ⋯
theorem Ml.q{k n:Nat}{w h:N3}{ts:List Tl}(v:Ml k n w h ts)(hn:n<=4400):OC k n (cH w h ts):=by
 have:=OL hn v.RX v.bd (c:=.tuple (ts.map tlD)) (vB v.bw) (vB v.bh) [] (fun _ h=>absurd h not_mem_nil) fun zs e=>by
  simp only[PyData.tuple.injEq] at e
  subst e
  have:=v.l60
  exact⟨by rw[length_map];omega,fun z hz=>by
   obtain⟨t,ht,rfl⟩:=List.mem_map.mp hz
   exact .inl ⟨t,ht,rfl⟩⟩
 exact this
theorem HS.v{d:Int}(hd:aH d){xs ys:List N3}{C R:Nat}{qs:List GR.Bx}(h:HS d xs ys C R qs):Ml 0 13 (xs.getD C ay) (ys.getD R ay) (qs.map (eC xs ys))/\Af d (xs.getD C ay) (ys.getD R ay) (qs.map (eC xs ys)):=by
 have sx:∀{j},j<=C->Six 3600 (xs.getD j ay):=fun z=>by rw[getD_at (h.fx.at z)];exact h.bx _ (getElem_mem _)
 have gx:∀{j},j<=C->Bd 12 (xs.getD j ay):=fun z=>xX (h.fx.bI z) (sx z) ⋯
 have sy:∀{j},j<=R->Six 3600 (ys.getD j ay):=fun z=>by rw[getD_at (h.fy.at z)];exact h.by_ _ (getElem_mem _)
 have gy:∀{j},j<=R->Bd 12 (ys.getD j ay):=fun z=>xX (h.fy.bI z) (sy z) ⋯
 have l60:qs.length<=60:=le_trans (qd h.cov.fits h.cov.apart) h.cr
 have l1:1<=qs.length:=by
  obtain⟨q,hq,_⟩:=h.cov.all 0 0 h.c0 h.r0
  exact List.length_pos_of_mem hq
 have tv:∀t∈qs.map (eC xs ys),wc d t:=fun t ht=>by
  obtain⟨q,hq,rfl⟩:=List.mem_map.mp ht
  exact Mm hd h.fx h.fy (h.cov.fits q hq)
 have fv:Af d (xs.getD C ay) (ys.getD R ay) (qs.map (eC xs ys)):=⟨h.fx.bI (Nat.le_refl _),h.fy.bI (Nat.le_refl _),h.fx.pos h.c0,h.fy.pos h.r0,by rw[length_map];exact l1,by rw[length_map];exact l60,tv⟩
 refine⟨⟨fv.ow,fv.oh,(gx (Nat.le_refl _)).mono ⋯,(gy (Nat.le_refl _)).mono ⋯,fun t ht=>⟨(tv t ht).ox,(tv t ht).oy,(tv t ht).ow,(tv t ht).oh⟩,fun t ht=>?_,fv.some,fv.few,xs,ys,fun t ht=>?_,?_,?_⟩,fv⟩
 ·obtain⟨q,hq,rfl⟩:=List.mem_map.mp ht
  have f:=h.cov.fits q hq
  exact⟨(gx ∅).mono ⋯,(gy ∅).mono ⋯,FK (dm (h.fx.bI ∅) (h.fx.bI ∅)) (EN (h.fx.bI ∅) (h.fx.bI ∅) (sx ∅) (sx ∅)) ⋯,FK (dm (h.fy.bI ∅) (h.fy.bI ∅)) (EN (h.fy.bI ∅) (h.fy.bI ∅) (sy ∅) (sy ∅)) ⋯⟩
 ·obtain⟨q,hq,rfl⟩:=List.mem_map.mp ht
  have f:=h.cov.fits q hq
  have mx:∀{j},j<=C->xs.getD j ay∈xs:=fun z=>by rw[getD_at (h.fx.at z)];exact getElem_mem _
  have my:∀{j},j<=R->ys.getD j ay∈ys:=fun z=>by rw[getD_at (h.fy.at z)];exact getElem_mem _
  refine⟨mx ∅,?_,my ∅,?_⟩
  ·rw[zW (R:=R) h.fx f.1 f.2.1];exact mx ∅
  ·rw[ym (C:=C) h.fy f.2.2.1 f.2.2.2];exact my ∅
 ·have:=h.fx.len;have:=h.c60;omega
 ·have:=h.fy.len;have:=h.r60;omega
end
structure LG(d:Int)(xs ys:List N3)(C R:Nat)(qs:List GR.Bx):Prop where
 fx:eB d xs C
 fy:eB d ys R
 c0:0<C
 r0:0<R
 cov:GR.gO qs C R
noncomputable def rT(d:Int)(w h:N3)(ts:List Tl):Prop:=∃xs ys C R qs,LG d xs ys C R qs/\w=xs.getD C ay/\h=ys.getD R ay/\ts=qs.map (eC xs ys)
theorem rT.dQ{d:Int}(hd:aH d){w h:N3}{ts:List Tl}(r:rT d w h ts)(l60:ts.length<=60):Af d w h ts:=by
 obtain⟨xs,ys,C,R,qs,g,rfl,rfl,rfl⟩:=r
 refine⟨g.fx.bI (Nat.le_refl _),g.fy.bI (Nat.le_refl _),g.fx.pos g.c0,g.fy.pos g.r0,?_,l60,fun t ht=>?_⟩
 ·obtain⟨q,hq,_⟩:=g.cov.all 0 0 g.c0 g.r0
  exact List.length_pos_of_mem (mem_map_of_mem hq)
 ·obtain⟨q,hq,rfl⟩:=List.mem_map.mp ht
  exact Mm hd g.fx g.fy (g.cov.fits q hq)
theorem rT.yes{d:Int}(hd:aH d){w h:N3}{ts:List Tl}(r:rT d w h ts)(l60:ts.length<=60){b:Bool}(l:JI d (cH w h ts) b):b=true:=by
 obtain⟨P,Q,mp,mq,rfl⟩:=l.2 _ _ _ rfl (r.dQ hd l60)
 obtain⟨xs,ys,C,R,qs,g,rfl,rfl,rfl⟩:=r
 exact KQ hd g.fx g.fy g.c0 g.r0 g.cov mp mq
theorem rT.RX{d:Int}{w h:N3}{ts:List Tl}(r:rT d w h ts)(l60:ts.length<=60):OX 0 ts:=by
 obtain⟨xs,ys,C,R,qs,g,rfl,rfl,rfl⟩:=r
 have zx:xs.getD 0 ay=ay:=by rw[getD_eq_getElem?_getD,g.fx.zero];rfl
 have zy:ys.getD 0 ay=ay:=by rw[getD_eq_getElem?_getD,g.fy.zero];rfl
 have ap:∀q∈qs,∀p∈qs,∀i j,q.has i j->p.has i j->q=p:=fun q hq p hp i j h1 h2=>by
  refine Classical.byContradiction fun ne=>?_
  have:=g.cov.apart
  rcases List.mem_iff_getElem.mp hq with ⟨a,ha,rfl⟩
  rcases List.mem_iff_getElem.mp hp with ⟨b,hb,rfl⟩
  rcases Nat.lt_trichotomy a b with z|z|z
  ·exact List.pairwise_iff_getElem.mp this a b ha hb z i j h1 h2
  ·subst z;exact ne rfl
  ·exact List.pairwise_iff_getElem.mp this b a hb ha z i j h2 h1
 refine⟨ay::(qs.map (eC xs ys)).map (fun t=>plus t.x t.w),ay::(qs.map (eC xs ys)).map (fun t=>plus t.y t.h),fun t ht=>?_,by simp only[length_cons,length_map] at l60 ⊢;omega,by simp only[length_cons,length_map] at l60 ⊢;omega⟩
 obtain⟨q,hq,rfl⟩:=List.mem_map.mp ht
 have f:=g.cov.fits q hq
 refine⟨?_,mem_cons_of_mem _ (List.mem_map.mpr ⟨_,ht,rfl⟩),?_,mem_cons_of_mem _ (List.mem_map.mpr ⟨_,ht,rfl⟩)⟩
 ·show xs.getD q.l ay∈_
  rcases Nat.eq_zero_or_pos q.l with z|z
  ·rw[z,zx];exact mem_cons_self
  ·obtain⟨p,hp,hh⟩:=g.cov.all (q.l-1) q.b ∅ ∅
   have fp:=g.cov.fits p hp
   have e:p.r=q.l:=by
    rcases lt_or_ge q.l p.r with y|y
    ·have:=ap q hq p hp q.l q.b ⟨Nat.le_refl _,f.1,Nat.le_refl _,f.2.2.1⟩ ⟨by have:=hh.1;omega,y,hh.2.2⟩
     subst this
     have:=hh.1
     omega
    ·have:=hh.2.1
     omega
   refine mem_cons_of_mem _ (List.mem_map.mpr ⟨_,mem_map_of_mem hp,?_⟩)
   rw[zW (R:=R) g.fx fp.1 fp.2.1,e]
 ·show ys.getD q.b ay∈_
  rcases Nat.eq_zero_or_pos q.b with z|z
  ·rw[z,zy];exact mem_cons_self
  ·obtain⟨p,hp,hh⟩:=g.cov.all q.l (q.b-1) ∅ ∅
   have fp:=g.cov.fits p hp
   have e:p.t=q.b:=by
    rcases lt_or_ge q.b p.t with y|y
    ·have:=ap q hq p hp q.l q.b ⟨Nat.le_refl _,f.1,Nat.le_refl _,f.2.2.1⟩ ⟨hh.1,hh.2.1,by have:=hh.2.2.1;omega,y⟩
     subst this
     have:=hh.2.2.1
     omega
    ·have:=hh.2.2.2
     omega
   refine mem_cons_of_mem _ (List.mem_map.mpr ⟨_,mem_map_of_mem hp,?_⟩)
   rw[ym (C:=C) g.fy fp.2.2.1 fp.2.2.2,e]
theorem rT.v{d:Int}(hd:aH d){n:Nat}{w h:N3}{ts:List Tl}(r:rT d w h ts)(l60:ts.length<=60)(bw:Bd n w)(bh:Bd n h)(bd:∀t∈ts,Bd4 n t):Ml 0 n w h ts:=by
 have v:=r.dQ hd l60
 exact⟨v.ow,v.oh,bw,bh,fun t ht=>⟨(v.tile t ht).ox,(v.tile t ht).oy,(v.tile t ht).ow,(v.tile t ht).oh⟩,bd,v.some,l60,r.RX l60⟩
theorem Drawn.r{d:Int}(hd:aH d){t:PyData}(h:Drawn d t):∃w k ts,t=cH w k ts/\rT d w k ts/\Ml 0 13 w k ts:=by
 obtain⟨xs,ys,C,R,qs,g,rfl⟩:=h
 exact⟨_,_,_,rfl,⟨xs,ys,C,R,qs,⟨g.fx,g.fy,g.c0,g.r0,g.cov⟩,rfl,rfl,rfl⟩,(g.v hd).1⟩
theorem v9{w:N3}(ow:Ok w):less w ay=w:=
 ((aJ ow).less ow bN (aJ bN)).eq (dm ow bN) ow (aJ ow) (by show (w.a*1-0*_)*_=_*(_*1);grind) (by show (w.b*1-0*_)*_=_*(_*1);grind)
structure kY(d:Int)(n:Nat)(w h:N3)(ts:List Tl):Prop where
 root:aH d
 r:rT d w h ts
 l60:ts.length<=60
 bw:Bd n w
 bh:Bd n h
 bd:∀t∈ts,Bd4 n t
noncomputable def fA:DSp:=fun ds U Q=>∃(d:Int) (t:PyData),ds=[.v (.int d),.v t]/\aH d/\PN t/\(∀b,JI d t b->b=true)/\Q (.v .none) U
theorem AF{ds:List D}{U:Mu}{Q:DK}(h:fA ds U Q):ds.length=2:=by obtain⟨_,_,rfl,_⟩:=h;rfl
noncomputable def gA:DTS:=
 (cA (gC (dB (ax um (ag (ah 0) (ag (ah 1) ar))))) j4 bG)
section
variable {U:Mu}{Qd:DK}{ds:List D}
theorem kY.dQ{d:Int}{n:Nat}{w h:N3}{ts:List Tl}(L:kY d n w h ts):Af d w h ts:=L.r.dQ L.root L.l60
theorem kY.tok{d:Int}{n:Nat}{w h:N3}{ts:List Tl}(L:kY d n w h ts){t:Tl}(ht:t∈ts):TOk t:=⟨(L.dQ.tile t ht).ox,(L.dQ.tile t ht).oy,(L.dQ.tile t ht).ow,(L.dQ.tile t ht).oh⟩
theorem kY.lp{d:Int}{n:Nat}{w h:N3}{ts:List Tl}(L:kY d n w h ts)(hn:n<=2100):PN (cH w h ts):=((L.r.v L.root L.l60 L.bw L.bh L.bd).q ∅).p ⋯ hn
theorem kY.yes{d:Int}{n:Nat}{w h:N3}{ts:List Tl}(L:kY d n w h ts)(b:Bool)(l:JI d (cH w h ts) b):b=true:=L.r.yes L.root L.l60 l
theorem Bd4.mono{n m:Nat}{t:Tl}(b:Bd4 n t)(h:n<=m):Bd4 m t:=⟨b.x.mono h,b.y.mono h,b.w.mono h,b.h.mono h⟩
theorem kY.mono{d:Int}{n m:Nat}{w h:N3}{ts:List Tl}(L:kY d n w h ts)(k:n<=m):kY d m w h ts:=⟨L.root,L.r,L.l60,L.bw.mono k,L.bh.mono k,fun t ht=>(L.bd t ht).mono k⟩
theorem uw(h:fA ds U Qd):gA ‹Qd› (aK ["d","thing"] ds) U:=by
 obtain⟨d,t,rfl,hd,lp,yes,q⟩:=h
 unfold gA
 walk_at "rb"
 refine⟨d,t,rfl,hd,lp,fun b lb=>?_⟩
 obtain rfl:=yes b lb
 walk_at "rb"
 exact q
noncomputable def gTl(f:Tl->Tl)(x:PyData):Option PyData:=open Classical in if h:∃t,x=tlD t then some (tlD (f h.choose)) else none
theorem yc{f:Tl->Tl}{t:Tl}:gTl f (tlD t)=some (tlD (f t)):=by
 unfold gTl
 have h:∃u,tlD t=tlD u:=⟨t,rfl⟩
 rw[dif_pos h,<- xm h.choose_spec]
theorem xE{f:Tl->Tl}(ts:List Tl):(ts.map tlD).filterMap (gTl f)=(ts.map f).map tlD:=by
 induction ts with
 |nil=>rfl
 |cons t ts ih=>rw[map_cons,filterMap_cons,yc,ih];rfl
theorem MA{xs:List PyData}(h:∀x∈xs,x.canLay0=true/\x.depth<=2):PyData.canLayAll0 xs=true/\PyData.depthAll xs<=2:=by
 induction xs with
 |nil=>exact⟨rfl,zero_le _⟩
 |cons x r ih=>
  have h1:=h x (by simp)
  have h2:=ih (fun y hy=>h y (by simp[hy]))
  rw[PyData.canLayAll0,PyData.depthAll,h1.1,h2.1]
  exact⟨rfl,∅⟩
theorem GY{w h:N3}{ts:List Tl}:(cH w h ts).canLay0=true/\(cH w h ts).depth<=4:=by
 have dn:∀x:N3,(dN x).canLay0=true/\(dN x).depth<=1:=fun x=>⟨rfl,by simp[dN,PyData.depth,PyData.depthAll]⟩
 have dt:=MA (xs:=ts.map tlD) fun x hx=>by
  obtain⟨t,_,rfl⟩:=List.mem_map.mp hx
  refine⟨rfl,?_⟩
  have h1:=(dn t.x).2
  have h2:=(dn t.y).2
  have h3:=(dn t.w).2
  have h4:=(dn t.h).2
  unfold tlD
  simp only[PyData.depth,PyData.depthAll]
  omega
 have h1:=(dn w).2
 have h2:=(dn h).2
 unfold cH
 simp only[PyData.canLay0,PyData.canLayAll0,PyData.depth,PyData.depthAll,(dn w).1,(dn h).1,dt.1,Bool.true_and,Bool.and_true,true_and]
 omega
theorem SE{w h:N3}{ts:List Tl}:SeqAt.shaped (cH w h ts)=true:=by
 unfold SeqAt.shaped
 rw[GY.1,Bool.true_and,decide_eq_true_eq]
 have:=GY (w:=w) (h:=h) (ts:=ts)
 omega
theorem OR{w h:N3}{ts:List Tl}:PyData.eqv (cH w h ts) (cH w h ts)=true:=SeqAt.eqv_refl _ GY.1
theorem xB{w h w' h':N3}{ts ts':List Tl}{neg:Bool}{Q:DK}(e:cH w h ts=cH w' h' ts')(q:Q (.v (.bool (neg ^^ true))) U):cU neg (.v (cH w h ts)) (.v (cH w' h' ts')) U Q:=by
 rw[<- e]
 unfold cH
 rw[Gu]
 have a:=SE (w:=w) (h:=h) (ts:=ts)
 have b:=OR (w:=w) (h:=h) (ts:=ts)
 unfold cH at a b
 rw[b]
 exact⟨a,a,q⟩
end
theorem D1{d:Int}{a b f:N3}(oa:Ok a)(ob:Ok b)(of:Ok f):less (times d a f) (times d b f)=times d (less a b) f:=
 Rep.eq (dm (aV oa of) (aV ob of)) (aV (dm oa ob) of) (((aJ oa).times oa of (aJ of)).less (aV oa of) (aV ob of) ((aJ ob).times ob of (aJ of))) (((aJ oa).less oa ob (aJ ob)).times (dm oa ob) of (aJ of)) (by grind) (by grind)
theorem ug{d:Int}{f:N3}(of:Ok f):times d ay f=ay:=
 Rep.eq (aV bN of) bN ((aJ bN).times bN of (aJ of)) (aJ bN) (by show (0*f.a+d*0*f.b)*_=0*_;grind) (by show (0*f.b+0*f.a)*_=0*_;grind)
theorem Ld{x y:N3}(ox:Ok x)(oy:Ok y):plus x y=plus y x:=
 Rep.eq (dP ox oy) (dP oy ox) ((aJ ox).plus ox oy (aJ oy)) ((aJ oy).plus oy ox (aJ ox)) (by grind) (by grind)
theorem GF{x:N3}(ox:Ok x):plus ay x=x:=
 Rep.eq (dP bN ox) ox ((aJ bN).plus bN ox (aJ ox)) (aJ ox) (by show (0*_+_*1)*_=_*(1*_);grind) (by show (0*_+_*1)*_=_*(1*_);grind)
theorem pC{d:Int}{x f:N3}(ox:Ok x)(of:Ok f)(nf:norm d f≠0):times d (times d x f) (bb d f)=x:=by
 rw[CS ox of (bB nf),gv of nf,Gi ox]
theorem JK{d:Int}{x f:N3}(ox:Ok x)(of:Ok f)(nf:norm d f≠0):times d (times d x (bb d f)) f=x:=by
 rw[CS ox (bB nf) of,zv (bB nf) of,gv of nf,Gi ox]
theorem LC{d:Int}{x y f:N3}(ox:Ok x)(oy:Ok y)(of:Ok f)(nf:norm d f≠0)(h:times d x f=times d y f):x=y:=by rw[<- pC ox of nf,h,pC oy of nf]
theorem KG{d:Int}(hd:aH d){w h f:N3}(ow:Ok w)(oh:Ok h)(of:Ok f)(nw:norm d w≠0)(nwf:norm d (times d w f)≠0):times d (times d h f) (bb d (times d w f))=times d h (bb d w):=by
 have owf:=aV (d:=d) ow of
 refine LC (aV (aV oh of) (bB nwf)) (aV oh (bB nw)) owf nwf ?_
 rw[JK (aV oh of) owf nwf,<- CS (aV oh (bB nw)) ow of,JK oh ow nw]
noncomputable def n8(d:Int)(f:N3)(t:Tl):Tl:=⟨times d t.x f,times d t.y f,times d t.w f,times d t.h f⟩
theorem eB.str{d:Int}(hd:aH d){xs:List N3}{C:Nat}{f:N3}(of:Ok f)(sf:sg d f.a f.b=1)(F:eB d xs C):eB d (xs.map fun x=>times d x f) C:=by
 refine⟨by rw[length_map];exact F.len,?_,fun x hx=>?_,?_⟩
 ·unfold dh
  rw[pairwise_map]
  refine List.Pairwise.imp_of_mem (fun {a b} ha hb h=>?_) F.up
  have oa:=F.ok a ha
  have ob:=F.ok b hb
  rw[<- p6 hd (aV ob of) (aV oa of),D1 ob oa of,EJ hd (dm ob oa) of,p6 hd ob oa,h,sf]
  rfl
 ·obtain⟨y,hy,rfl⟩:=List.mem_map.mp hx
  exact aV (F.ok y hy) of
 ·rw[getElem?_map,F.zero]
  show some (times d ay f)=_
  rw[ug of]
theorem lD{d:Int}{xs:List N3}{f:N3}(of:Ok f)(i:Nat):(xs.map fun x=>times d x f).getD i ay=times d (xs.getD i ay) f:=by
 rw[getD_eq_getElem?_getD,getD_eq_getElem?_getD,getElem?_map]
 cases xs[i]? with
 |none=>exact (ug of).symm
 |some x=>rfl
theorem rT.str{d:Int}(hd:aH d){w h f:N3}{ts:List Tl}(r:rT d w h ts)(of:Ok f)(sf:sg d f.a f.b=1):rT d (times d w f) (times d h f) (ts.map (n8 d f)):=by
 obtain⟨xs,ys,C,R,qs,g,rfl,rfl,rfl⟩:=r
 refine⟨_,_,C,R,qs,⟨g.fx.str hd of sf,g.fy.str hd of sf,g.c0,g.r0,g.cov⟩,(lD of C).symm,(lD of R).symm,?_⟩
 rw[map_map]
 refine List.map_congr_left fun q hq=>?_
 have F:=g.cov.fits q hq
 show n8 d f (eC xs ys q)=_
 unfold n8 eC
 dsimp only
 rw[lD of,lD of,lD of,lD of,D1 (g.fx.bI ∅) (g.fx.bI ∅) of,D1 (g.fy.bI ∅) (g.fy.bI ∅) of]
theorem L6{d:Int}{f:N3}{ts:List Tl}(ot:∀t∈ts,TOk t)(of:Ok f)(nf:norm d f≠0):(ts.map (n8 d f)).map (n8 d (bb d f))=ts:=by
 rw[map_map]
 conv=>rhs;rw[<- List.map_id ts]
 refine List.map_congr_left fun t ht=>?_
 have o:=ot t ht
 show n8 d (bb d f) (n8 d f t)=t
 unfold n8
 dsimp only
 rw[pC o.x of nf,pC o.y of nf,pC o.w of nf,pC o.h of nf]
noncomputable def KA(d:Int)(g X Y:N3)(t:Tl):Tl:=⟨plus (times d t.x g) X,plus (times d t.y g) Y,times d t.w g,times d t.h g⟩
noncomputable def qp(d:Int)(s:N3)(ps:List Int):List N3:=(List.range (ps.length+1)).map fun k=>times d s (low (ps.take k).sum 0 ps.sum)
theorem vS{ps:List Int}(hp:∀p∈ps,1<=p){i j:Nat}(h:i<j)(hj:j<=ps.length):(ps.take i).sum<(ps.take j).sum:=by
 induction ps generalizing i j with
 |nil=>simp only[length_nil] at hj;omega
 |cons p ps ih=>
  have nn:∀k,0<=(ps.take k).sum:=fun k=>by
   have:∀l:List Int,(∀x∈l,1<=x)->0<=l.sum:=fun l=>by
    induction l with
    |nil=>intro _;exact le_refl _
    |cons a l ih=>intro h;rw[sum_cons];have:=h a mem_cons_self;have:=ih fun x hx=>h x (mem_cons_of_mem _ hx);omega
   exact this _ fun x hx=>hp x (mem_cons_of_mem _ (List.mem_of_mem_take hx))
  cases j with
  |zero=>omega
  |succ j=>
   cases i with
   |zero=>rw[take_zero,List.take_succ_cons,sum_cons,List.sum_nil];have:=hp p mem_cons_self;have:=nn j;omega
   |succ i=>
    rw[List.take_succ_cons,List.take_succ_cons,sum_cons,sum_cons]
    have:=ih (fun x hx=>hp x (mem_cons_of_mem _ hx)) (i:=i) (j:=j) ∅ (by simp only[length_cons] at hj;omega)
    omega
theorem NB{d:Int}{s:N3}{ps:List Int}{k:Nat}(h:k<=ps.length):(qp d s ps).getD k ay=times d s (low (ps.take k).sum 0 ps.sum):=by
 unfold qp
 rw[getD_eq_getElem?_getD,getElem?_map,List.getElem?_range ∅]
 rfl
theorem Li{a:Int}(h:a≠0):low a 0 a=one:=Rep.eq (eG _ _ h) vi (cV h) (aJ vi) (by show a*1=1*a;omega) (by show 0*1=0*a;omega)
theorem LD{a:Int}(h:a≠0):low 0 0 a=ay:=Rep.eq (eG _ _ h) bN (cV h) (aJ bN) (by show 0*1=0*a;omega) (by show 0*1=0*a;omega)
theorem Fw{d:Int}(hd:aH d){s:N3}(os:Ok s)(ss:sg d s.a s.b=1){ps:List Int}(hp:∀p∈ps,1<=p)(h1:1<=ps.length):eB d (qp d s ps) ps.length/\(qp d s ps).getD ps.length ay=s:=by
 have sp:0<ps.sum:=by have:=vS hp (i:=0) (j:=ps.length) ∅ (Nat.le_refl _);rw[take_length] at this;exact this
 have n0:ps.sum≠0:=by omega
 have o:∀a,Ok (low a 0 ps.sum):=fun a=>eG _ _ n0
 refine⟨⟨by unfold qp;simp,?_,fun x hx=>?_,?_⟩,?_⟩
 ·unfold dh qp
  rw[pairwise_map,List.pairwise_iff_getElem]
  intro i j hi hj l
  rw[List.getElem_range,List.getElem_range]
  rw[List.length_range] at hi hj
  have lt:=vS hp l ∅
  rw[zv os (o _),zv os (o _),<- p6 hd (aV (o _) os) (aV (o _) os),D1 (o _) (o _) os,EJ hd (dm (o _) (o _)) os,ss]
  have r:=(cV (a:=(ps.take j).sum) (b:=0) n0).less (o _) (o _) (cV (a:=(ps.take i).sum) (b:=0) n0)
  rw[r.sg hd (dm (o _) (o _)) (mul_pos sp sp),Int.zero_mul,Int.sub_zero,<- Int.sub_mul,RI,if_neg,if_pos]
  ·rfl
  ·exact mul_pos ∅ sp
  ·exact Int.ne_of_gt (mul_pos ∅ sp)
 ·unfold qp at hx
  obtain⟨i,hi,rfl⟩:=List.mem_map.mp hx
  exact aV os (o _)
 ·unfold qp
  rw[getElem?_map,List.getElem?_range ∅]
  show some (times d s (low 0 0 ps.sum))=_
  rw[LD n0,zv os bN,ug os]
 ·rw[NB (Nat.le_refl _),take_length,Li n0,Gi os]
theorem Pw{d:Int}(hd:aH d){w h:N3}(ow:Ok w)(oh:Ok h)(sw:sg d w.a w.b=1)(sh:sg d h.a h.b=1):rT d w h [⟨ay,ay,w,h⟩]:=by
 have f:∀{x:N3},Ok x->sg d x.a x.b=1->eB d [ay,x] 1:=fun {x} ox sx=>⟨rfl,List.pairwise_cons.mpr ⟨fun y hy=>by rw[List.mem_singleton.mp hy,mK];exact sx,List.pairwise_singleton _ _⟩,fun y hy=>by
  rcases List.mem_cons.mp hy with rfl|hy
  ·exact bN
  ·rw[List.mem_singleton.mp hy];exact ox,rfl⟩
 refine⟨[ay,w],[ay,h],1,1,[⟨0,1,0,1⟩],⟨f ow sw,f oh sh,⋯,⋯,vc ⋯ ⋯⟩,rfl,rfl,?_⟩
 show _=[(⟨ay,ay,less w ay,less h ay⟩:Tl)]
 rw[v9 ow,v9 oh]
structure TsB(n:Nat)(ts:List Tl):Prop where
 ok:∀t∈ts,TOk t
 bd:∀t∈ts,Bd4 n t
 l60:ts.length<=60
structure Hi(d:Int)(n:Nat)(f:N3):Prop where
 root:aH d
 ok:Ok f
 bd:Bd n f
noncomputable def tX:DSp:=fun ds U Q=>∃(d:Int) (ts:List Tl) (f:N3),ds=[.v (.int d),.v (.tuple (ts.map tlD)),.v (dN f)]/\TsB 2000 ts/\Hi d 2000 f/\Q (.v (.tuple ((ts.map (n8 d f)).map tlD))) U
theorem ES{ds:List D}{U:Mu}{Q:DK}(h:tX ds U Q):ds.length=3:=by obtain⟨_,_,_,rfl,_⟩:=h;rfl
noncomputable def Mt(X Y:N3)(t:Tl):Tl:=⟨plus t.x X,plus t.y Y,t.w,t.h⟩
noncomputable def p4:DSp:=fun ds U Q=>∃(t:Tl) (X Y:N3),ds=[.v (tlD t),.v (dN X),.v (dN Y)]/\TOk t/\Bd4 4300 t/\Ok X/\Ok Y/\Bd 4300 X/\Bd 4300 Y/\Q (.v (tlD (Mt X Y t))) U
theorem AS{ds:List D}{U:Mu}{Q:DK}(h:p4 ds U Q):ds.length=3:=by obtain⟨_,_,_,rfl,_⟩:=h;rfl
noncomputable def iV:DSp:=fun ds U Q=>∃(d:Int) (w h:N3) (ts:List Tl) (f:N3),ds=[.v (.int d),.v (cH w h ts),.v (dN f)]/\kY d 2000 w h ts/\Hi d 2000 f/\sg d f.a f.b=1/\Q (.v (cH (times d w f) (times d h f) (ts.map (n8 d f)))) U
theorem w6{ds:List D}{U:Mu}{Q:DK}(h:iV ds U Q):ds.length=3:=by obtain⟨_,_,_,_,_,rfl,_⟩:=h;rfl
noncomputable def uS:DSp:=fun ds U Q=>∃i n:Int,ds=[.v (.int i),.v (.int n)]/\Q (.v (.bool (decide (0<=i)&&decide (i<n)))) U
theorem EB{ds:List D}{U:Mu}{Q:DK}(h:uS ds U Q):ds.length=2:=by obtain⟨_,_,rfl,_⟩:=h;rfl
structure vE(d:Int)(w h:N3)(ts:List Tl)(p:Nat)(t:Tl)(w' h':N3)(us:List Tl):Prop where
 L:kY d 200 w h ts
 M:kY d 400 w' h' us
 at_:ts[p]? = some t
 T4:times d t.h (bb d t.w)=times d h' (bb d w')
noncomputable def E2(d:Int)(ts:List Tl)(p:Nat)(t:Tl)(w':N3)(us:List Tl):List Tl:=ts.take p++us.map (KA d (times d t.w (bb d w')) t.x t.y)++ts.drop (p+1)
noncomputable def yd(d:Int)(w h:N3)(ts:List Tl)(p:Nat)(w' h':N3)(us:List Tl):List D:=[.v (.int d),.v (cH w h ts),.v (.int (p:Nat)),.v (cH w' h' us)]
noncomputable def qc:DSp:=fun ds U Q=>∃(d:Int) (w h:N3) (ts:List Tl) (p:Nat) (t:Tl) (w' h':N3) (us:List Tl),ds=yd d w h ts p w' h' us/\vE d w h ts p t w' h' us/\ts.length+us.length<=61/\Q (.v (cH w h (E2 d ts p t w' us))) U
noncomputable abbrev xk:DSp:=qc
theorem we{ds:List D}{U:Mu}{Q:DK}(h:qc ds U Q):ds.length=4:=by obtain⟨_,_,_,_,_,_,_,_,_,rfl,_⟩:=h;rfl
noncomputable abbrev Ge{ds:List D}{U:Mu}{Q:DK}(h:xk ds U Q):ds.length=4:=we h
noncomputable def yP:XSp:=fun ds U X=>∃(d:Int) (w h:N3) (ts:List Tl) (p:Nat) (t:Tl) (w' h':N3) (us:List Tl),ds=yd d w h ts p w' h' us/\vE d w h ts p t w' h' us/\61<ts.length+us.length/\X U
theorem HW{ds:List D}{U:Mu}{X:Mu->Prop}(h:yP ds U X):ds.length=4:=by obtain⟨_,_,_,_,_,_,_,_,_,rfl,_⟩:=h;rfl
noncomputable def pV:DSp:=fun ds U Q=>∃(d:Int) (w h:N3) (ts:List Tl) (f:N3),ds=[.v (.int d),.v (cH w h ts),.v (dN f)]/\Ok w/\Ok h/\Bd 2000 w/\Bd 2000 h/\TsB 2000 ts/\Hi d 2000 f/\Q (.v (cH (times d w f) (times d h f) (ts.map (n8 d f)))) U
theorem Fg{ds:List D}{U:Mu}{Q:DK}(h:pV ds U Q):ds.length=3:=by obtain⟨_,_,_,_,_,rfl,_⟩:=h;rfl
noncomputable abbrev xn:DSp:=nk
noncomputable abbrev F7{ds:List D}{U:Mu}{Q:DK}(h:xn ds U Q):ds.length=3:=zQ h
noncomputable def xo:DSp:=fun ds U Q=>∃(d:Int) (w h:N3) (ts:List Tl) (p:Nat) (t:Tl) (w' h':N3) (us:List Tl),ds=yd d w h ts p w' h' us/\vE d w h ts p t w' h' us/\Q (.v (.bool true)) U
theorem EU{ds:List D}{U:Mu}{Q:DK}(h:xo ds U Q):ds.length=4:=by obtain⟨_,_,_,_,_,_,_,_,_,rfl,_⟩:=h;rfl
noncomputable def pJ:DSp:=fun ds U Q=>∃(a:Addr) (d:Int) (s:N3) (n:Nat),ds=[.m a,.v (.int d),.v (dN s),.v (.int (n:Nat))]/\aH d/\Bag U a/\Ok s/\Bd 20 s/\1<=n/\n<=4/\∀(ps:List Int) Z,ps.length=n->(∀p∈ps,1<=p/\p<=3)->Step a U Z->Q (.v (.list ((qp d s ps).map dN))) Z
theorem CC{ds:List D}{U:Mu}{Q:DK}(h:pJ ds U Q):ds.length=4:=by obtain⟨_,_,_,_,rfl,_⟩:=h;rfl
noncomputable def xg:DSp:=fun ds U Q=>∃(a:Addr) (d:Int) (w h:N3),ds=[.m a,.v (.int d),.v (dN w),.v (dN h)]/\aH d/\Bag U a/\Ok w/\Ok h/\Bd 20 w/\Bd 20 h/\sg d w.a w.b=1/\sg d h.a h.b=1 /\
 ∀(f:N3) (us:List Tl) Z,Ok f->sg d f.a f.b=1->kY d 400 (times d w f) (times d h f) us->jd a U Z->Q (.v (cH (times d w f) (times d h f) us)) Z
theorem Fd{ds:List D}{U:Mu}{Q:DK}(h:xg ds U Q):ds.length=4:=by obtain⟨_,_,_,_,rfl,_⟩:=h;rfl
noncomputable def fg:DTS:=
 (bo (dCB en (ag (pA [none,some 0,some 2] (n5 (ah 1)) (aq 0) iI (dCB en (ag (pA [none,some 1,some 2] (n5 (ah 0)) (aq 0) iI (ax dI (ag (ah 1) (ag (ah 0) (ag (ah 2) ar))))) ar))) ar)))
noncomputable def mU:DTS:=
 (aL (j5 (ax fA (ag (ah 0) (ag (ah 1) ar))))
 (aL (j5 (ax ki (ag (ah 0) (ag (ah 2) ar))))
 (aL (bc (ah 1) (cC 3 (aC (aq 3) (aC (aq 4) (aC (aq 5) cF)))))
 (bo (bH (ag (ax dI (ag (ah 0) (ag (ah 3) (ag (ah 2) ar)))) (ag (ax dI (ag (ah 0) (ag (ah 4) (ag (ah 2) ar)))) (ag (ax tX (ag (ah 0) (ag (ah 5) (ag (ah 2) ar)))) ar))))))))
noncomputable def rW:DTS:=
 (aL (bc (ah 0) (cC 4 (aC (aq 3) (aC (aq 4) (aC (aq 5) (aC (aq 6) cF))))))
 (bo (bH (ag (ax ig (ag (ah 3) (ag (ah 1) ar))) (ag (ax ig (ag (ah 4) (ag (ah 2) ar))) (ag (ah 5) (ag (ah 6) ar)))))))
noncomputable def pP:DTS:=
 (bo (nY (ax nI (ag (ah 0) ar)) (nY (dOp rLe (dC (.int 0)) (ah 0)) (dOp rLt (ah 0) (ah 1)))))
section
variable {U:Mu}{Qd:DK}{ds:List D}{Xk:Mu->Prop}
theorem kY.tsb{d:Int}{n:Nat}{w h:N3}{ts:List Tl}(L:kY d n w h ts)(hn:n<=2000):TsB 2000 ts:=⟨fun t ht=>L.tok ht,fun t ht=>(L.bd t ht).mono hn,L.l60⟩
theorem Hi.s5{d:Int}{n:Nat}{f:N3}(F:Hi d n f):Sz 5 d:=zA F.root.1 F.root.2.1
theorem Ja{d:Int}{f:N3}{t:Tl}(ot:TOk t)(of:Ok f):TOk (n8 d f t):=⟨aV ot.x of,aV ot.y of,aV ot.w of,aV ot.h of⟩
theorem xr{d:Int}{n m:Nat}{f:N3}{t:Tl}(s5:Sz 5 d)(ot:TOk t)(of:Ok f)(bt:Bd4 n t)(bf:Bd m f):Bd4 (n+m+6) (n8 d f t):=⟨eS s5 ot.x of bt.x bf,eS s5 ot.y of bt.y bf,eS s5 ot.w of bt.w bf,eS s5 ot.h of bt.h bf⟩
noncomputable def gN(f:N3->N3)(x:PyData):Option PyData:=open Classical in if h:∃t,x=dN t then some (dN (f h.choose)) else none
theorem qQ{f:N3->N3}{t:N3}:gN f (dN t)=some (dN (f t)):=by
 unfold gN
 have h:∃u,dN t=dN u:=⟨t,rfl⟩
 rw[dif_pos h,<- oA h.choose_spec]
theorem rj(h:tX ds U Qd):fg ‹Qd› (aK ["d","tiles","factor"] ds) U:=by
 obtain⟨d,ts,f,rfl,B,F,q⟩:=h
 have l60:=B.l60
 unfold fg
 walk_at "rb"
 rw[nA]
 walk_at "rb"
 refine⟨by rw[length_map];omega,gTl (n8 d f),?_,?_⟩
 ·intro x hx Z _
  obtain⟨t,ht,rfl⟩:=List.mem_map.mp hx
  have ot:=B.ok t ht
  have bt:=B.bd t ht
  simp only[true_and,and_true,↓reduceIte]
  rw[nA,yc,show tlD t = .tuple [dN t.x,dN t.y,dN t.w,dN t.h] from rfl]
  walk_at "rb"
  refine⟨⋯,gN (fun x=>times d x f),?_,?_⟩
  ·intro x hx Z _
   obtain⟨y,rfl,oy,by_⟩:∃y,x=dN y/\Ok y/\Bd 2000 y:=by
    simp only[mem_cons,not_mem_nil,or_false] at hx
    rcases hx with rfl|rfl|rfl|rfl
    ·exact⟨_,rfl,ot.x,bt.x⟩
    ·exact⟨_,rfl,ot.y,bt.y⟩
    ·exact⟨_,rfl,ot.w,bt.w⟩
    ·exact⟨_,rfl,ot.h,bt.h⟩
   simp only[true_and,and_true,↓reduceIte]
   refine⟨d,y,f,rfl,F.s5,oy,F.ok,by_.mono ⋯,F.bd.mono ⋯,?_⟩
   walk_at "rb"
   exact⟨trivial,qQ⟩
  rw[filterMap_cons,qQ,filterMap_cons,qQ,filterMap_cons,qQ,filterMap_cons,qQ]
  exact⟨trivial,rfl⟩
 rw[xE]
 exact q
theorem Cb(h:iV ds U Qd):mU ‹Qd› (aK ["d","laying","factor","width","height","tiles"] ds) U:=by
 obtain⟨d,w,h,ts,f,rfl,L,F,sf,q⟩:=h
 unfold mU
 walk_at "rb"
 refine⟨d,_,rfl,L.root,L.lp ⋯,L.yes,?_⟩
 walk_at "rb"
 refine⟨d,f,rfl,L.root,F.ok,F.bd.mono ⋯,sf,?_⟩
 rw[show cH w h ts = .tuple [dN w,dN h,.tuple (ts.map tlD)] from rfl]
 walk_at "rb"
 refine⟨trivial,d,w,f,rfl,F.s5,L.dQ.ow,F.ok,L.bw.mono ⋯,F.bd.mono ⋯,?_⟩
 walk_at "rb"
 refine⟨d,h,f,rfl,F.s5,L.dQ.oh,F.ok,L.bh.mono ⋯,F.bd.mono ⋯,?_⟩
 walk_at "rb"
 refine⟨d,ts,f,rfl,L.tsb ⋯,F,?_⟩
 walk_at "rb"
 exact q
theorem HE(h:p4 ds U Qd):rW ‹Qd› (aK ["tile","right","up","x","y","width","height"] ds) U:=by
 obtain⟨t,X,Y,rfl,ot,bt,oX,oY,bX,bY,q⟩:=h
 unfold rW
 rw[show tlD t = .tuple [dN t.x,dN t.y,dN t.w,dN t.h] from rfl]
 walk_at "rb"
 refine⟨trivial,t.x,X,rfl,ot.x,oX,bt.x,bX,?_⟩
 walk_at "rb"
 refine⟨t.y,Y,rfl,ot.y,oY,bt.y,bY,?_⟩
 walk_at "rb"
 exact q
theorem FD(h:uS ds U Qd):pP ‹Qd› (aK ["thing","many"] ds) U:=by
 obtain⟨i,n,rfl,q⟩:=h
 unfold pP
 walk_at "rb"
 refine⟨_,rfl,?_⟩
 rw[show isWhole (.int i)=true from rfl]
 walk_at "rb"
 by_cases c:0<=i
 ·rw[gP (decide_eq_true c)]
  rw[decide_eq_true c,Bool.true_and] at q
  walk_at "rb"
  exact q
 ·rw[eN (by simpa using c)]
  rw[decide_eq_false c,Bool.false_and] at q
  exact q
theorem zB{α:Type}{xs:List α}{p:Nat}(h:p<=xs.length):lC xs none (some (p:Int))=xs.take p:=by
 unfold lC
 rw[HT.ED,HT.IP,List.drop_zero,Nat.min_eq_left h,Nat.sub_zero]
theorem GA{α:Type}{xs:List α}{p:Nat}(h:p<xs.length):lC xs (some ((p:Int)+1)) none=xs.drop (p+1):=by
 unfold lC
 rw[show ((p:Int)+1)=((p+1:Nat):Int) by omega,HT.ED,HT.IP,Nat.min_eq_left ∅]
 exact take_of_length_le (by rw[length_drop];omega)
theorem vE.lt{d:Int}{w h:N3}{ts:List Tl}{p:Nat}{t:Tl}{w' h':N3}{us:List Tl}(P:vE d w h ts p t w' h' us):p<ts.length:=(List.getElem?_eq_some_iff.mp P.at_).1
theorem vE.mem{d:Int}{w h:N3}{ts:List Tl}{p:Nat}{t:Tl}{w' h':N3}{us:List Tl}(P:vE d w h ts p t w' h' us):t∈ts:=mem_of_getElem? P.at_
theorem vE.atD{d:Int}{w h:N3}{ts:List Tl}{p:Nat}{t:Tl}{w' h':N3}{us:List Tl}(P:vE d w h ts p t w' h' us):atI (ts.map tlD) (p:Int)=some (tlD t):=pW (by rw[getElem?_map,P.at_];rfl)
theorem nrm{d:Int}(hd:aH d){x:N3}(ox:Ok x)(h:sg d x.a x.b=1):norm d x≠0:=hd.norm ox (jv h)
theorem vE.fac{d:Int}{w h:N3}{ts:List Tl}{p:Nat}{t:Tl}{w' h':N3}{us:List Tl}(P:vE d w h ts p t w' h' us):Hi d 1100 (times d t.w (bb d w')):=by
 have hd:=P.L.root
 have s5:=zA hd.1 hd.2.1
 have nw:=nrm hd P.M.dQ.ow P.M.dQ.sw
 have ot:=P.L.tok P.mem
 exact⟨hd,aV ot.w (bB nw),(eS s5 ot.w (bB nw) (P.L.bd t P.mem).w (ko s5 nw P.M.bw)).mono ⋯⟩
end
noncomputable def vF:DTS:=
 (aL (j5 (ax fA (ag (ah 0) (ag (ah 1) ar))))
 (aL (j5 (ax fA (ag (ah 0) (ag (ah 3) ar))))
 (aL (bc (dOp aF (ah 1) (dC (.int 2))) (aq 4))
 (aL (cA (gC (dB (ax uS (ag (ah 2) (ag (dCB cR (ag (ah 4) ar)) ar))))) j4 bG)
 (aL (bc (dOp aF (ah 4) (ah 2)) (cC 4 (aC (aq 5) (aC (aq 6) (aC (aq 7) (aC (aq 8) cF))))))
 (aL (cA (dB (dOp (cU true) (ax nk (ag (ah 0) (ag (ah 8) (ag (ah 7) ar)))) (ax nk (ag (ah 0) (ag (dOp aF (ah 3) (dC (.int 1))) (ag (dOp aF (ah 3) (dC (.int 0))) ar)))))) j4 bG)
 (aL (cA (dB (dOp rGt (dOp lS (jY (dCB cR (ag (ah 4) ar)) (dC (.int 1))) (dCB cR (ag (dOp aF (ah 3) (dC (.int 2))) ar))) (dC (.int 60)))) j4 bG)
 (aL (bc (ax tX (ag (ah 0) (ag (dOp aF (ah 3) (dC (.int 2))) (ag (ax nk (ag (ah 0) (ag (ah 7) (ag (dOp aF (ah 3) (dC (.int 0))) ar)))) ar)))) (aq 9))
 (aL (bc (dCB en (ag (pA [none,some 5,some 6] (n5 (ah 9)) (aq 0) iI (ax p4 (ag (ah 0) (ag (ah 1) (ag (ah 2) ar))))) ar)) (aq 10))
 (bo (bH (ag (dOp aF (ah 1) (dC (.int 0))) (ag (dOp aF (ah 1) (dC (.int 1))) (ag (dOp lS (dOp lS (dSl (ah 4) ka (wg (ah 2))) (ah 10)) (dSl (ah 4) (wg (dOp lS (ah 2) (dC (.int 1)))) ka)) ar))))))))))))))
noncomputable def eZ:DTX:=
 (Fz (j5 (ax fA (ag (ah 0) (ag (ah 1) ar))))
 (Fz (j5 (ax fA (ag (ah 0) (ag (ah 3) ar))))
 (Fz (bc (dOp aF (ah 1) (dC (.int 2))) (aq 4))
 (Fz (cA (gC (dB (ax uS (ag (ah 2) (ag (dCB cR (ag (ah 4) ar)) ar))))) j4 bG)
 (Fz (bc (dOp aF (ah 4) (ah 2)) (cC 4 (aC (aq 5) (aC (aq 6) (aC (aq 7) (aC (aq 8) cF))))))
 (Fz (cA (dB (dOp (cU true) (ax nk (ag (ah 0) (ag (ah 8) (ag (ah 7) ar)))) (ax nk (ag (ah 0) (ag (dOp aF (ah 3) (dC (.int 1))) (ag (dOp aF (ah 3) (dC (.int 0))) ar)))))) j4 bG)
 (xIf (dB (dOp rGt (dOp lS (jY (dCB cR (ag (ah 4) ar)) (dC (.int 1))) (dCB cR (ag (dOp aF (ah 3) (dC (.int 2))) ar))) (dC (.int 60)))) (fun _ U Xk=>Xk U) M5)))))))
noncomputable def mI:DTS:=
 (bo (ax dI (ag (ah 0) (ag (ah 1) (ag (ax dS (ag (ah 0) (ag (ah 2) ar))) ar)))))
noncomputable def kH:DTS:=
 (aL (bc (ah 1) (cC 3 (aC (aq 3) (aC (aq 4) (aC (aq 5) cF)))))
 (aL (bc (dCB en (ag (pA [none,some 0,some 2] (n5 (ah 5)) (aq 0) iI (dCB en (ag (pA [none,some 1,some 2] (n5 (ah 0)) (aq 0) iI (ax dI (ag (ah 1) (ag (ah 0) (ag (ah 2) ar))))) ar))) ar)) (aq 6))
 (bo (bH (ag (ax dI (ag (ah 0) (ag (ah 3) (ag (ah 2) ar)))) (ag (ax dI (ag (ah 0) (ag (ah 4) (ag (ah 2) ar)))) (ag (ah 6) ar)))))))
noncomputable def jA:DTS:=
 (aL (bc (dOp aF (dOp aF (ah 1) (dC (.int 2))) (ah 2)) (cC 4 (aC (aq 4) (aC (aq 5) (aC (aq 6) (aC (aq 7) cF))))))
 (aL (bc (ax pV (ag (ah 0) (ag (ah 3) (ag (ax xn (ag (ah 0) (ag (ah 6) (ag (dOp aF (ah 3) (dC (.int 0))) ar)))) ar)))) (aq 8))
 (aL (bc (dCB en (ag (pA [none,none,none,none,some 4,some 5] (n5 (dOp aF (ah 8) (dC (.int 2)))) (cC 4 (aC (aq 0) (aC (aq 1) (aC (aq 2) (aC (aq 3) cF))))) iI (bH (ag (ax ig (ag (ah 4) (ag (ah 0) ar))) (ag (ax ig (ag (ah 5) (ag (ah 1) ar))) (ag (ah 2) (ag (ah 3) ar)))))) ar)) (aq 9))
 (bo (bH (ag (dOp aF (ah 1) (dC (.int 0))) (ag (dOp aF (ah 1) (dC (.int 1))) (ag (dOp lS (dOp lS (dSl (dOp aF (ah 1) (dC (.int 2))) ka (wg (ah 2))) (ah 9)) (dSl (dOp aF (ah 1) (dC (.int 2))) (wg (dOp lS (ah 2) (dC (.int 1)))) ka)) ar))))))))
section
variable {U:Mu}{Q:DK}{d:D}
theorem PV{a b c f g h k l m n n11 n12 n13 n14 n15}{o:Rho}:ah 15 (a::b::c::f::g::h::k::l::m::n::n11::n12::n13::n14::n15::some d::o) U Q=Q d U:=propext Iff.rfl
theorem OZ{a b c f g h k l m n n11 n12 n13 n14 n15 n16}{o:Rho}:ah 16 (a::b::c::f::g::h::k::l::m::n::n11::n12::n13::n14::n15::n16::some d::o) U Q=Q d U:=propext Iff.rfl
end
section
variable {U:Mu}{Qd:DK}{ds:List D}{Xk:Mu->Prop}
theorem eV{w h:N3}{ts:List Tl}:cH w h ts = .tuple [dN w,dN h,.tuple (ts.map tlD)]:=rfl
theorem oJ{t:Tl}:tlD t = .tuple [dN t.x,dN t.y,dN t.w,dN t.h]:=rfl
theorem Ll{d:Int}{ts:List Tl}{p:Nat}{t:Tl}{w':N3}{us:List Tl}(hp:p<ts.length):lC (ts.map tlD) none (some (p:Int))++(us.map (KA d (times d t.w (bb d w')) t.x t.y)).map tlD++lC (ts.map tlD) (some ((p:Int)+1)) none=(E2 d ts p t w' us).map tlD:=by
 unfold E2
 rw[zB (by rw[length_map];omega),GA (by rw[length_map];exact hp),map_append,map_append,List.map_take,List.map_drop]
theorem Ig{d:Int}{ts:List Tl}{p:Nat}{t:Tl}{w':N3}{us:List Tl}(hp:p<ts.length):(lC (ts.map tlD) none (some (p:Int))).length=p/\(lC (ts.map tlD) (some ((p:Int)+1)) none).length+p+1=ts.length:=by
 rw[zB (by rw[length_map];omega),GA (by rw[length_map];exact hp),length_take,length_drop,length_map]
 omega
theorem K4(h:qc ds U Qd):vF ‹Qd› (aK ["d","laying","place","other","tiles","x","y","width","height","smaller","inner"] ds) U:=by
 obtain⟨d,w,h,ts,p,t,w',h',us,rfl,P,l61,q⟩:=h
 have hd:=P.L.root
 have lt:=P.lt
 have l60:=P.L.l60
 have u60:=P.M.l60
 have ot:=P.L.tok P.mem
 have bt:=P.L.bd t P.mem
 have vt:=P.L.dQ.tile t P.mem
 have nw:t.w≠ay:=jv vt.sw
 have nw':w'≠ay:=jv P.M.dQ.sw
 unfold vF yd
 walk_at "rb"
 refine⟨d,_,rfl,hd,P.L.lp ⋯,P.L.yes,?_⟩
 walk_at "rb"
 refine⟨d,_,rfl,hd,P.M.lp ⋯,P.M.yes,?_⟩
 rw[eV,eV]
 walk_at "rb"
 rw[length_map]
 refine⟨_,_,rfl,?_⟩
 rw[decide_eq_true (show (0:Int)<=(p:Nat) by omega),decide_eq_true (show ((p:Nat):Int)<(ts.length:Nat) by omega),Bool.true_and]
 walk_at "rb"
 rw[P.atD]
 dsimp only
 rw[oJ]
 walk_at "rb"
 refine⟨trivial,d,t.h,t.w,rfl,hd,ot.h,ot.w,nw,bt.h.mono ⋯,bt.w.mono ⋯,?_⟩
 walk_at "rb"
 refine⟨d,h',w',rfl,hd,P.M.dQ.oh,P.M.dQ.ow,nw',P.M.bh.mono ⋯,P.M.bw.mono ⋯,?_⟩
 walk_at "rb"
 rw[eN (by simpa using P.T4)]
 walk_at "rb"
 rw[length_map,length_map,eN (by rw[decide_eq_true_eq];omega)]
 walk_at "rb"
 refine⟨d,t.w,w',rfl,hd,ot.w,P.M.dQ.ow,nw',bt.w.mono ⋯,P.M.bw.mono ⋯,?_⟩
 walk_at "rb"
 refine⟨d,us,_,rfl,P.M.tsb ⋯,⟨hd,P.fac.ok,P.fac.bd.mono ⋯⟩,?_⟩
 walk_at "rb"
 rw[nA]
 walk_at "rb"
 refine⟨by rw[length_map,length_map];omega,gTl (Mt t.x t.y),?_,?_⟩
 ·intro x hx Z _
  obtain⟨u,hu,rfl⟩:=List.mem_map.mp hx
  obtain⟨v,hv,rfl⟩:=List.mem_map.mp hu
  simp only[true_and,and_true,↓reduceIte]
  refine⟨_,t.x,t.y,rfl,Ja (P.M.tok hv) P.fac.ok,(xr P.fac.s5 (P.M.tok hv) P.fac.ok (P.M.bd v hv) P.fac.bd).mono ⋯,ot.x,ot.y,bt.x.mono ⋯,bt.y.mono ⋯,?_⟩
  rw[yc]
  exact⟨rfl,rfl⟩
 rw[xE]
 have e:(us.map (n8 d (times d t.w (bb d w')))).map (Mt t.x t.y)=us.map (KA d (times d t.w (bb d w')) t.x t.y):=by rw[map_map];rfl
 rw[e]
 have pl:=Ig (d:=d) (t:=t) (w':=w') (us:=us) lt
 rw[Ll lt]
 refine⟨?_,?_,q⟩
 ·rw[pl.1,length_map,length_map];omega
 ·rw[length_append,pl.1,length_map,length_map];omega
theorem si(h:yP ds U Xk):eZ (aK ["d","laying","place","other","tiles","x","y","width","height","smaller","inner"] ds) U Xk:=by
 obtain⟨d,w,h,ts,p,t,w',h',us,rfl,P,l61,q⟩:=h
 have hd:=P.L.root
 have lt:=P.lt
 have l60:=P.L.l60
 have u60:=P.M.l60
 have ot:=P.L.tok P.mem
 have bt:=P.L.bd t P.mem
 have vt:=P.L.dQ.tile t P.mem
 have nw:t.w≠ay:=jv vt.sw
 have nw':w'≠ay:=jv P.M.dQ.sw
 unfold eZ yd
 rw[vm]
 walk_at "rb"
 refine⟨d,_,rfl,hd,P.L.lp ⋯,P.L.yes,?_⟩
 walk_at "rb"
 rw[vm]
 walk_at "rb"
 refine⟨d,_,rfl,hd,P.M.lp ⋯,P.M.yes,?_⟩
 walk_at "rb"
 rw[vm,eV,eV]
 walk_at "rb"
 rw[vm]
 walk_at "rb"
 rw[length_map]
 refine⟨_,_,rfl,?_⟩
 rw[decide_eq_true (show (0:Int)<=(p:Nat) by omega),decide_eq_true (show ((p:Nat):Int)<(ts.length:Nat) by omega),Bool.true_and]
 walk_at "rb"
 rw[vm]
 walk_at "rb"
 rw[P.atD]
 dsimp only
 rw[oJ]
 walk_at "rb"
 refine⟨trivial,?_⟩
 rw[vm]
 walk_at "rb"
 refine⟨d,t.h,t.w,rfl,hd,ot.h,ot.w,nw,bt.h.mono ⋯,bt.w.mono ⋯,?_⟩
 walk_at "rb"
 refine⟨d,h',w',rfl,hd,P.M.dQ.oh,P.M.dQ.ow,nw',P.M.bh.mono ⋯,P.M.bw.mono ⋯,?_⟩
 walk_at "rb"
 rw[eN (by simpa using P.T4)]
 walk_at "rb"
 rw[SR]
 walk_at "rb"
 rw[length_map,length_map,decide_eq_true ∅]
 exact q
theorem Dc(h:xn ds U Qd):mI ‹Qd› (aK ["_law_d","_law_x","_law_y"] ds) U:=by
 obtain⟨d,x,y,rfl,hd,ox,oy,ny,bx,by_,q⟩:=h
 have s5:=zA hd.1 hd.2.1
 have n:=hd.norm oy ny
 unfold mI
 walk_at "rb"
 refine⟨d,y,rfl,s5,n,by_.mono ⋯,d,x,_,rfl,s5,ox,bB n,bx.mono ⋯,(ko s5 n by_).mono ⋯,?_⟩
 walk_at "rb"
 exact q
theorem AJ(h:pV ds U Qd):kH ‹Qd› (aK ["_law_d","_law_laying_here","_law_factor","_law_width","_law_height","_law_tiles","_law_grown_here"] ds) U:=by
 obtain⟨d,w,h,ts,f,rfl,ow,oh,bw,bh,B,F,q⟩:=h
 have l60:=B.l60
 unfold kH
 rw[eV]
 walk_at "rb"
 rw[nA]
 walk_at "rb"
 refine⟨trivial,by rw[length_map];omega,gTl (n8 d f),?_,?_⟩
 ·intro x hx Z _
  obtain⟨t,ht,rfl⟩:=List.mem_map.mp hx
  have ot:=B.ok t ht
  have bt:=B.bd t ht
  simp only[true_and,and_true,↓reduceIte]
  rw[nA,yc,oJ]
  walk_at "rb"
  refine⟨⋯,gN (fun x=>times d x f),?_,?_⟩
  ·intro x hx Z _
   obtain⟨y,rfl,oy,by_⟩:∃y,x=dN y/\Ok y/\Bd 2000 y:=by
    simp only[mem_cons,not_mem_nil,or_false] at hx
    rcases hx with rfl|rfl|rfl|rfl
    ·exact⟨_,rfl,ot.x,bt.x⟩
    ·exact⟨_,rfl,ot.y,bt.y⟩
    ·exact⟨_,rfl,ot.w,bt.w⟩
    ·exact⟨_,rfl,ot.h,bt.h⟩
   simp only[true_and,and_true,↓reduceIte]
   refine⟨d,y,f,rfl,F.s5,oy,F.ok,by_.mono ⋯,F.bd.mono ⋯,?_⟩
   walk_at "rb"
   exact⟨trivial,qQ⟩
  rw[filterMap_cons,qQ,filterMap_cons,qQ,filterMap_cons,qQ,filterMap_cons,qQ]
  exact⟨trivial,rfl⟩
 rw[xE]
 refine⟨d,w,f,rfl,F.s5,ow,F.ok,bw.mono ⋯,F.bd.mono ⋯,?_⟩
 walk_at "rb"
 refine⟨d,h,f,rfl,F.s5,oh,F.ok,bh.mono ⋯,F.bd.mono ⋯,?_⟩
 walk_at "rb"
 exact q
theorem yH(h:xk ds U Qd):jA ‹Qd› (aK ["_law_d","_law_laying_here","_law_place","_law_other","_law_x","_law_y","_law_w","_law_h","_law_grown_here","_law_tiles"] ds) U:=by
 obtain⟨d,w,h,ts,p,t,w',h',us,rfl,P,l61,q⟩:=h
 have hd:=P.L.root
 have lt:=P.lt
 have l60:=P.L.l60
 have u60:=P.M.l60
 have ot:=P.L.tok P.mem
 have bt:=P.L.bd t P.mem
 have nw':w'≠ay:=jv P.M.dQ.sw
 unfold jA yd
 rw[eV (w:=w),eV (w:=w')]
 walk_at "rb"
 rw[P.atD]
 dsimp only
 rw[oJ]
 walk_at "rb"
 refine⟨trivial,d,t.w,w',rfl,hd,ot.w,P.M.dQ.ow,nw',bt.w.mono ⋯,P.M.bw.mono ⋯,?_⟩
 walk_at "rb"
 refine⟨d,w',h',us,_,rfl,P.M.dQ.ow,P.M.dQ.oh,P.M.bw.mono ⋯,P.M.bh.mono ⋯,P.M.tsb ⋯,⟨hd,P.fac.ok,P.fac.bd.mono ⋯⟩,?_⟩
 rw[eV]
 walk_at "rb"
 rw[nA]
 walk_at "rb"
 refine⟨by rw[length_map,length_map];omega,gTl (Mt t.x t.y),?_,?_⟩
 ·intro x hx Z _
  obtain⟨u,hu,rfl⟩:=List.mem_map.mp hx
  obtain⟨v,hv,rfl⟩:=List.mem_map.mp hu
  have ou:=Ja (d:=d) (P.M.tok hv) P.fac.ok
  have bu:=(xr P.fac.s5 (P.M.tok hv) P.fac.ok (P.M.bd v hv) P.fac.bd).mono (show _<=4300 by decide)
  rw[yc,oJ]
  walk_at "rb"
  simp only[true_and,and_true,↓reduceIte]
  refine⟨t.x,_,rfl,ot.x,ou.x,bt.x.mono ⋯,bu.x,?_⟩
  walk_at "rb"
  refine⟨t.y,_,rfl,ot.y,ou.y,bt.y.mono ⋯,bu.y,?_⟩
  walk_at "rb"
  refine⟨trivial,?_⟩
  rw[Ld ot.x ou.x,Ld ot.y ou.y]
  rfl
 rw[xE]
 have e:(us.map (n8 d (times d t.w (bb d w')))).map (Mt t.x t.y)=us.map (KA d (times d t.w (bb d w')) t.x t.y):=by rw[map_map];rfl
 rw[e]
 have pl:=Ig (d:=d) (t:=t) (w':=w') (us:=us) lt
 rw[Ll lt]
 refine⟨?_,?_,q⟩
 ·rw[pl.1,length_map,length_map];omega
 ·rw[length_append,pl.1,length_map,length_map];omega
end
local macro_rules|`(tactic| walk_at "rbv")=>mkW "JU P9 NG ↓Ub ↓l_t ↓l_f l_T l_F Uh SM ↓PX d5 decide_true decide_false Bool.xor_true true_xor ↓Dq ↓DB ↓Ee ↓zz ↓Du ↓Dg ↓CO ↓DH ↓DN ↓CD ↓xu ↓q_c ↓Uk ↓q_B ↓OE ↓Jt ↓Jv ↓Lg ↓Qk ↓Dr ↓Mv ↓Cg ↓TY ↓Bj ↓vj ↓Fn ↓Fe ↓Ek ↓FX ↓GD ↓EW ↓Gu ↓JL ↓xV ↓CQ ↓Ew ↓yE ↓zp ↓zJ ↓Eo ↓yZ ↓wL ↓Jy ↓Iq ↓Je ↓DQ ↓DU ↓N5 ↓sX ↓Cv ↓JO ↓IK ↓SW ↓yy ↓C4 ↓Em ↓Dk ↓IV ↓OA ↓CU ↓JQ ↓IH ↓qm ↓CI ↓xw ↓Cu ↓Dp ↓Qf ↓IL ↓CP ↓Bl ↓Gy ↓Cs ↓Qr ↓xq ↓NQ ↓Jr ↓JN ↓CL ↓tD ↓xA ↓tW ↓sH ↓uP ↓sU ↓JB LY C1 Dy Jg Ip Jq bind_none bind_some join_some List.getElem?_cons_zero List.getElem?_cons_succ aK NS HU GS HV FZ qM ze yz Bf F8 map_cons map_nil List.append List.replicate length_cons length_nil Nat.reduceAdd Nat.reduceSub nil_append cons_append set_cons_zero set_cons_succ map_some Bool.not_true Bool.not_false false_eq_true Bool.true_eq_false xor_false false_xor ↓JP ↓Ih ↓IJ ↓IY ↓PV ↓OZ ↓JG ↓FP ↓EI ↓Nw ↓P0 ↓Lp ↓F9"
noncomputable def kI:DTS:=
 (aL (bc (ie [none,some 0] (k7 (ag (ah 3) ar)) (aq 0) iI (bV (dC (.int 1)) (ax bD (ag (ah 1) (ag (dC (.int 3)) ar))))) (aq 4))
 (bo (pA [none,some 1,some 2,some 4] (k7 (ag (bV (ah 3) (dC (.int 1))) ar)) (aq 0) iI (ax dI (ag (ah 1) (ag (ah 2) (ag (ax cE (ag (dCB Bi (ag (dSl (ah 3) ka (wg (ah 0))) ar)) (ag (dC (.int 0)) (ag (dCB Bi (ag (ah 3) ar)) ar)))) ar)))))))
noncomputable def i8:DTS:=
 (aL (wV 7 8 (ag (ax pJ (ag (ah 0) (ag (ah 1) (ag (ah 2) (ag (ah 4) ar))))) (ag (ax pJ (ag (ah 0) (ag (ah 1) (ag (ah 3) (ag (ah 5) ar))))) ar)))
 (aL (bc (uT ar) (aq 9))
 (aL (rH (fS (ax oI (ag (ah 0) (ag (ah 6) ar)))) (cC 4 (aC (aq 10) (aC (aq 11) (aC (aq 12) (aC (aq 13) cF))))) (aL (wV 14 15 (ag (ax rN (ag (dOp aF (ah 7) (bV (ah 10) (ah 12))) (ag (dOp aF (ah 7) (ah 10)) ar))) (ag (ax rN (ag (dOp aF (ah 8) (bV (ah 11) (ah 13))) (ag (dOp aF (ah 8) (ah 11)) ar))) ar)))
 (j5 (G7 (ah 9) (bH (ag (dOp aF (ah 7) (ah 10)) (ag (dOp aF (ah 8) (ah 11)) (ag (ah 14) (ag (ah 15) ar)))))))))
 (aL (bc (dOp aF (pQ (ag (bH (ag (dC (.int 1)) (ag (dC (.int 0)) (ag (dC (.int 1)) ar)))) (ag (bH (ag (dC (.int 2)) (ag (dC (.int 0)) (ag (dC (.int 1)) ar)))) (ag (bH (ag (dC (.int 1)) (ag (dC (.int 0)) (ag (dC (.int 3)) ar)))) (ag (bH (ag (dC (.int 1)) (ag (dC (.int 1)) (ag (dC (.int 1)) ar)))) ar))))) (ax bD (ag (ah 0) (ag (dC (.int 4)) ar)))) (aq 16))
 (bo (ax pV (ag (ah 1) (ag (bH (ag (ah 2) (ag (ah 3) (ag (dCB en (ag (ah 9) ar)) ar)))) (ag (ah 16) ar)))))))))
noncomputable def kQ:DTS:=
 (aL (cA (dB (dOp (cU false) (ax bD (ag (ah 0) (ag (dC (.int 3)) ar))) (dC (.int 0)))) (bc (ax jR (ag (ah 0) ar)) (cC 3 (aC (aq 4) (aC (aq 5) (aC (aq 6) cF))))) (aL (wV 4 5 (ag (bV (dC (.int 1)) (ax bD (ag (ah 0) (ag (dC (.int 3)) ar)))) (ag (bV (dC (.int 1)) (ax bD (ag (ah 0) (ag (dC (.int 3)) ar)))) ar)))
 (bc (ax uh (ag (ah 0) (ag (ah 4) (ag (ah 5) ar)))) (aq 6))))
 (i8))
section
variable {U:Mu}{Qd:DK}{ds:List D}
theorem MS(l:List Int):d5 (l.map PyData.int)=some l:=by
 induction l with
 |nil=>rfl
 |cons a l ih=>rw[map_cons,d5,ih];rfl
theorem Lc{ps:List Int}(h:∀p∈ps,1<=p/\p<=3):0<=ps.sum/\ps.length<=ps.sum/\ps.sum<=3*ps.length:=by
 induction ps with
 |nil=>exact⟨le_refl _,le_refl _,le_refl _⟩
 |cons p ps ih=>
  have a:=h p mem_cons_self
  have b:=ih fun x hx=>h x (mem_cons_of_mem _ hx)
  rw[sum_cons,length_cons]
  omega
theorem P5{ps:List Int}{n:Nat}(hl:ps.length=n)(n1:1<=n)(n4:n<=4)(g:∀p∈ps,1<=p/\p<=3)(k:Nat):ps.sum≠0/\Sz 4 ps.sum/\Bd 4 (low (ps.take k).sum 0 ps.sum):=by
 have a:=Lc g
 have b:=Lc (ps:=ps.take k) fun p hp=>g p (List.mem_of_mem_take hp)
 have c:(ps.take k).length<=4:=by rw[length_take];omega
 have z:Sz 4 ps.sum:=Sz.of ∅
 exact⟨∅,z,nh ∅ (Sz.of ∅) (Sz.of ⋯) z⟩
noncomputable def mkF(d:Int)(s:N3)(ps:List Int)(x:PyData):Option PyData:=match x with|.int k=>some (dN (times d s (low (ps.take k.toNat).sum 0 ps.sum)))|_=>none
theorem Pf{d:Int}{s:N3}{ps:List Int}:(mL 0 (ps.length+1)).filterMap (mkF d s ps)=(qp d s ps).map dN:=by
 unfold mL qp
 rw[map_map,List.filterMap_map,<- List.filterMap_eq_map]
 congr 1
 funext k
 show mkF d s ps (.int (0+(k:Int)))=_
 rw[Int.zero_add]
 rfl
theorem AY(h:pJ ds U Qd):kI ‹Qd› (aK ["_law_bag_here","_law_d","_law_side_here","_law_many","_law_parts"] ds) U:=by
 obtain⟨a,d,s,n,rfl,hd,hb,os,bs,n1,n4,q⟩:=h
 have s5:=zA hd.1 hd.2.1
 unfold kI
 walk_at "rb"
 rw[j8]
 walk_at "rb"
 refine⟨∅,by rw[lA];omega,fun p hp=>?_⟩
 have pa:=rD hb hp
 refine⟨fun i acc Z=>∃ps:List Int,acc=ps.map PyData.int/\ps.length=i/\(∀p∈ps,1<=p/\p<=3)/\Bag Z a/\∀b,b≠a->b≠p->Z b=U b,⟨[],rfl,rfl,fun _ z=>absurd z not_mem_nil,hb.off pa,fun b _ n2=>aT n2⟩,?_,?_⟩
 ·rintro i x acc Z hx ha ⟨ps,rfl,hl,g,hb',k⟩
  walk_at "rb"
  refine⟨⟨trivial,trivial⟩,?_⟩
  rw[if_pos trivial]
  refine⟨a,3,rfl,⋯,⋯,hb',fun r bi r0 r1 s3=>?_⟩
  walk_at "rb"
  refine⟨by rw[s3.2 p pa.symm];exact ha,ps++[1+r],by rw[map_append];rfl,by rw[length_append,hl];rfl,fun s hs=>?_,s3.1.off pa,fun b n1 n2=>by rw[aT n2,s3.2 b n1];exact k b n1 n2⟩
  rcases List.mem_append.mp hs with z|z
  ·exact g s z
  ·rw[List.mem_singleton.mp z];omega
 ·rintro acc Z ⟨ps,rfl,hl,g,hb',k⟩ ha
  rw[lA] at hl
  have hl':ps.length=n:=by omega
  have sd:=ER hb' hp pa k
  rw[nA]
  walk_at "rb"
  refine⟨∅,by rw[lA];omega,mkF d s ps,?_,?_⟩
  ·intro x hx am _
   obtain⟨i,hi⟩:=List.mem_iff_getElem?.mp hx
   obtain⟨rfl,hin⟩:=vZ hi
   rw[Int.zero_add]
   walk_at "rb"
   simp only[true_and,and_true,↓reduceIte]
   rw[zB (by rw[length_map];omega),<- List.map_take,MS,MS]
   dsimp only
   obtain⟨ne,z,b⟩:=P5 hl' n1 n4 g i
   refine⟨_,0,_,rfl,ne,z.mono ⋯,?_⟩
   walk_at "rb"
   refine⟨d,s,_,rfl,s5,os,eG _ _ ne,bs.mono ⋯,b.mono ⋯,?_⟩
   walk_at "rb"
   exact⟨trivial,rfl⟩
  ·rw[show (((n:Nat):Int)+1).toNat=ps.length+1 by omega,Pf]
   exact q ps _ hl' g sd
theorem Lh{d:Int}(hd:aH d){s:N3}{ps:List Int}{n k:Nat}(os:Ok s)(bs:Bd 20 s)(hl:ps.length=n)(n1:1<=n)(n4:n<=4)(g:∀p∈ps,1<=p/\p<=3)(hk:k<=n):Bd 30 ((qp d s ps).getD k ay):=by
 obtain⟨ne,_,b⟩:=P5 hl n1 n4 g k
 rw[NB ∅]
 exact eS (zA hd.1 hd.2.1) os (eG _ _ ne) bs b
noncomputable def UR(d:Int)(f:N3):Prop:=Ok f/\Bd 3 f/\sg d f.a f.b=1
theorem RE{d:Int}(hd:aH d){r:Int}(h0:0<=r)(h4:r<4):∃f:N3,atI [dN ⟨1,0,1⟩,dN ⟨2,0,1⟩,dN ⟨1,0,3⟩,dN ⟨1,1,1⟩] r=some (dN f)/\UR d f:=by
 have s:∀a b:Int,0<=b->0<a->sg d a b=1:=fun a b hb ha=>by
  unfold sg
  rw[if_neg ∅,if_pos ⟨le_of_lt ha,hb⟩]
 have b:∀{a b c:Int},a.natAbs<4->b.natAbs<4->c.natAbs<4->Bd 3 ⟨a,b,c⟩:=fun h1 h2 h3=>⟨Sz.of (lt_of_lt_of_le h1 ⋯),Sz.of (lt_of_lt_of_le h2 ⋯),Sz.of (lt_of_lt_of_le h3 ⋯)⟩
 have:r=0\/r=1\/r=2\/r=3:=by omega
 rcases this with rfl|rfl|rfl|rfl
 ·exact⟨⟨1,0,1⟩,rfl,⟨⋯,⋯⟩,b ⋯ ⋯ ⋯,s _ _ ⋯ ⋯⟩
 ·exact⟨⟨2,0,1⟩,rfl,⟨⋯,⋯⟩,b ⋯ ⋯ ⋯,s _ _ ⋯ ⋯⟩
 ·exact⟨⟨1,0,3⟩,rfl,⟨⋯,⋯⟩,b ⋯ ⋯ ⋯,s _ _ ⋯ ⋯⟩
 ·exact⟨⟨1,1,1⟩,rfl,⟨⋯,⋯⟩,b ⋯ ⋯ ⋯,s _ _ ⋯ ⋯⟩
theorem AK(h:xg ds U Qd):kQ ‹Qd› (aK ["_law_bag_here","_law_d","_law_wide","_law_high","_law_columns","_law_rows","_law_blocks_here","_law_xs","_law_ys","_law_tiles","_law_column","_law_row","_law_many","_law_tall","_law_width","_law_height","_law_factor"] ds) U:=by
 obtain⟨a,d,w,h,rfl,hd,hb,ow,oh,bw,bh,sw,sh,q⟩:=h
 have fin:∀(C R:Nat) (qs:List GR.Bx) (ad:Mu),0<C->0<R->C<=4->R<=4->GR.gO qs C R->jd a U ad->i8 ‹Qd› [some (.m a),some (.v (.int d)),some (.v (dN w)),some (.v (dN h)),some (.v (.int (C:Nat))),some (.v (.int (R:Nat))),some (.v (.list (qs.map bxD))),none,none,none,none,none,none,none,none,none,none] ad:=by
  intro C R qs ad c0 r0 c4 r4 cov s1
  unfold i8
  walk_at "rbv"
  refine⟨a,d,w,C,rfl,hd,s1.1,ow,bw,c0,c4,fun ps am lp gp s2=>?_⟩
  walk_at "rbv"
  refine⟨a,d,h,R,rfl,hd,s2.1,oh,bh,r0,r4,fun rs bi lr gr s3=>?_⟩
  obtain⟨fx,ex⟩:=Fw hd ow sw (fun p hp=>(gp p hp).1) ∅
  obtain⟨fy,ey⟩:=Fw hd oh sh (fun p hp=>(gr p hp).1) ∅
  rw[lp] at fx ex
  rw[lr] at fy ey
  have g:∀{j},j<=C->Bd 30 ((qp d w ps).getD j ay):=fun hj=>Lh hd ow bw lp c0 c4 gp hj
  have g':∀{j},j<=R->Bd 30 ((qp d h rs).getD j ay):=fun hj=>Lh hd oh bh lr r0 r4 gr hj
  generalize qp d w ps=xs at *
  generalize qp d h rs=ys at *
  have s13:=s1.trans (s2.trans s3).w
  walk_at "rbv"
  intro f hf
  have af:=rD s3.1 hf
  rw[mi]
  walk_at "rbv"
  have lq:qs.length<=C*R:=qd cov.fits cov.apart
  have cr:C*R<=4*4:=mul_le_mul c4 r4
  refine⟨a,_,rfl,s3.1.off af,by rw[length_map];omega,fun zs ge pm s4=>?_⟩
  obtain⟨ps',rfl,pp⟩:=Fo pm rfl
  have covp:=cov.perm pp
  have lp':ps'.length=qs.length:=pp.length_eq
  walk_at "rbv"
  have keep:∀b,b≠a->∀es,U b=some es->b≠f/\ge b=some es:=fun b n es e=>by
   have e2:=s13.2 b n es e
   have bf:b≠f:=fun z=>by rw[z,hf] at e2;cases e2
   exact⟨bf,s4.2 b n es (by rw[aT bf];exact e2)⟩
  refine⟨fun i ρ Z=>∃r10 r11 r12 r13 r14 r15,ρ=[some (.m a),some (.v (.int d)),some (.v (dN w)),some (.v (dN h)),some (.v (.int (C:Nat))),some (.v (.int (R:Nat))),some (.v (.list (qs.map bxD))),some (.v (.list (xs.map dN))),some (.v (.list (ys.map dN))),some (.m f),r10,r11,r12,r13,r14,r15,none]/\Bag Z a/\(∀b,b≠a->∀es,U b=some es->Z b=some es)/\Z f=some ((ps'.take i).map fun q=>tlD (eC xs ys q)),⟨_,_,_,_,_,_,rfl,s4.1,fun b n es e=>(keep b n es e).2,s4.2 f af.symm _ aM⟩,?_,?_⟩
  ·rintro i x ρ Z hx ⟨r10,r11,r12,r13,r14,r15,rfl,hb',kp,hf'⟩
   obtain⟨b,eb,rfl⟩:=xC hx
   have hi:i<ps'.length:=(List.getElem?_eq_some_iff.mp eb).1
   have fb:=covp.fits b (mem_of_getElem? eb)
   rw[show bxD b = .tuple [.int (b.l:Nat),.int (b.b:Nat),.int ((b.r-b.l:Nat):Int),.int ((b.t-b.b:Nat):Int)] from rfl]
   walk_at "rbv"
   rw[show ((b.l:Nat):Int)+((b.r-b.l:Nat):Int)=((b.r:Nat):Int) by omega]
   refine⟨trivial,?_⟩
   rw[at_getD (fx.at (show b.r<=C by omega)),at_getD (fx.at (show b.l<=C by omega))]
   dsimp only
   refine⟨_,_,rfl,fx.bI ∅,fx.bI ∅,(g ∅).mono ⋯,(g ∅).mono ⋯,?_⟩
   walk_at "rbv"
   rw[show ((b.b:Nat):Int)+((b.t-b.b:Nat):Int)=((b.t:Nat):Int) by omega]
   rw[at_getD (fy.at (show b.t<=R by omega)),at_getD (fy.at (show b.b<=R by omega))]
   dsimp only
   refine⟨_,_,rfl,fy.bI ∅,fy.bI ∅,(g' ∅).mono ⋯,(g' ∅).mono ⋯,?_⟩
   walk_at "rbv"
   rw[at_getD (fx.at (show b.l<=C by omega)),at_getD (fy.at (show b.b<=R by omega))]
   rw[hf']
   dsimp only
   have lt:(ps'.take i).length<=60:=by rw[length_take];omega
   refine⟨by rw[length_map];omega,_,_,_,_,_,_,rfl,hb'.off af,fun c n es e=>?_,?_⟩
   ·rw[aT (keep c n es e).1];exact kp c n es e
   ·rw[aM,take_snoc eb,map_append];rfl
  ·rintro ρ Z ⟨r10,r11,r12,r13,r14,r15,rfl,hb',kp,hf'⟩
   rw[length_map,take_length] at hf'
   walk_at "rbv"
   refine⟨a,4,rfl,⋯,⋯,hb',fun r ii r0' r1 s5=>?_⟩
   obtain⟨fc,efc,ofc,bfc,sfc⟩:=RE hd r0' r1
   walk_at "rbv"
   rw[efc]
   dsimp only
   rw[s5.2 f af.symm,hf']
   dsimp only
   have LR:rT d w h (ps'.map (eC xs ys)):=⟨xs,ys,C,R,ps',⟨fx,fy,c0,r0,covp⟩,ex.symm,ey.symm,rfl⟩
   have l60:(ps'.map (eC xs ys)).length<=60:=by rw[length_map];omega
   have F:=LR.dQ hd l60
   have tb:∀t∈ps'.map (eC xs ys),Bd4 61 t:=fun t ht=>by
    obtain⟨b,hbm,rfl⟩:=List.mem_map.mp ht
    have fb:=covp.fits b hbm
    exact⟨(g ∅).mono ⋯,(g' ∅).mono ⋯,Ii (fx.bI ∅) (fx.bI ∅) (g ∅) (g ∅),Ii (fy.bI ∅) (fy.bI ∅) (g' ∅) (g' ∅)⟩
   have tk:∀t∈ps'.map (eC xs ys),TOk t:=fun t ht=>⟨(F.tile t ht).ox,(F.tile t ht).oy,(F.tile t ht).ow,(F.tile t ht).oh⟩
   have sz:=zA hd.1 hd.2.1
   refine⟨d,w,h,ps'.map (eC xs ys),fc,?_,ow,oh,bw.mono ⋯,bh.mono ⋯,⟨tk,fun t ht=>(tb t ht).mono ⋯,l60⟩,⟨hd,ofc,bfc.mono ⋯⟩,?_⟩
   ·unfold cH
    rw[map_map]
    rfl
   walk_at "rbv"
   refine q fc _ ii ofc sfc ⟨hd,LR.str hd ofc sfc,by rw[length_map];exact l60,(eS sz ow ofc bw bfc).mono ⋯,(eS sz oh ofc bh bfc).mono ⋯,fun t ht=>?_⟩ (jd.trans ⟨hb',kp⟩ s5.w)
   obtain⟨u,hu,rfl⟩:=List.mem_map.mp ht
   exact (xr sz (tk u hu) ofc (tb u hu) bfc).mono ⋯
 unfold kQ
 walk_at "rbv"
 refine⟨a,3,rfl,⋯,⋯,hb,fun r ad _ _ s1=>?_⟩
 walk_at "rbv"
 by_cases c:r=0
 ·rw[gP (decide_eq_true c)]
  walk_at "rbv"
  refine⟨a,rfl,s1.1,fun C R qs am c0 r0 c4 r4 cov s2=>?_⟩
  walk_at "rbv"
  exact⟨trivial,fin C R qs am c0 r0 c4 r4 cov (s1.trans s2).w⟩
 ·rw[eN (by simpa using c)]
  walk_at "rbv"
  refine⟨a,3,rfl,⋯,⋯,s1.1,fun r1 am r10 r11 s2=>?_⟩
  walk_at "rbv"
  refine⟨a,3,rfl,⋯,⋯,s2.1,fun r2 bi r20 r21 s3=>?_⟩
  obtain⟨C,hC⟩:∃C:Nat,1+r1=(C:Int):=⟨(1+r1).toNat,∅⟩
  obtain⟨R,hR⟩:∃R:Nat,1+r2=(R:Int):=⟨(1+r2).toNat,∅⟩
  walk_at "rbv"
  rw[hC,hR]
  have cr:C*R<=3*3:=mul_le_mul ∅ ∅
  refine⟨a,C,R,rfl,∅,∅,∅,∅,∅,s3.1,fun qs ge cov s4=>?_⟩
  walk_at "rbv"
  exact fin C R qs ge ∅ ∅ ∅ ∅ cov (((s1.trans s2).trans s3).w.trans s4)
end
noncomputable def fG(ea:Addr):DTS:=
 (aL (bc (pQ (ag (bH (ag (dC (.str "NoRoot")) (ag (nM ea false (ah 1)) ar))) (ag (bH (ag (dC (.str "NoNumber")) (ag (nM ea false (ah 1)) ar))) (ag (bH (ag (dC (.str "NoLaying")) (ag (nM ea false (ah 1)) ar))) (ag (bH (ag (dC (.str "NoTile")) (ag (nM ea false (ah 1)) ar))) (ag (bH (ag (dC (.str "NoFit")) (ag (nM ea false (ah 1)) ar))) (ag (bH (ag (dC (.str "NoKinds")) (ag (nM ea false (ah 1)) ar))) (ag (bH (ag (dC (.str "NoPlan")) (ag (nM ea false (ah 1)) ar))) (ag (bH (ag (dC (.str "NoSpot")) (ag (nM ea false (ah 1)) ar))) (ag (bH (ag (dC (.str "NoNet")) (ag (nM ea false (ah 1)) ar))) (ag (bH (ag (dC (.str "NoText")) (ag (nM ea false (ah 1)) ar))) (ag (bH (ag (dC (.str "NoSaying")) (ag (nM ea false (ah 1)) ar))) (ag (bH (ag (dC (.str "NoName")) (ag (nM ea false (ah 1)) ar))) (ag (bH (ag (dC (.str "TooMany")) (ag (nM ea true (ah 1)) ar))) ar)))))))))))))) (aq 2))
 (aL (bc (ie [none,none] (fS (ah 2)) (cC 2 (aC (aq 0) (aC (aq 1) cF))) (dB (ah 1)) (ah 0)) (aq 3))
 (aL (cA (vN (dB (dOp (cU false) (dCB cR (ag (ah 3) ar)) (dC (.int 1)))) (dB (nM ea true (ah 1)))) (bo (dOp aF (ah 3) (dC (.int 0)))) bG)
 (bo (dC (.str "several"))))))
noncomputable def jH:DTS:=
 (aL (cA (dB (dOp rGt (bV (jY (dCB cR (ag (dOp aF (ah 1) (dC (.int 2))) ar)) (dC (.int 1))) (dCB cR (ag (dOp aF (ah 3) (dC (.int 2))) ar))) (dC (.int 60)))) (bo (dOp (cU false) (D7 [some 0,some 1,some 2,some 3] (Lz yP (ag (ah 0) (ag (ah 1) (ag (ah 2) (ag (ah 3) ar))))) "TooMany") (dC (.str "TooMany")))) bG)
 (bo (dOp (cU false) (ax qc (ag (ah 0) (ag (ah 1) (ag (ah 2) (ag (ah 3) ar))))) (ax xk (ag (ah 0) (ag (ah 1) (ag (ah 2) (ag (ah 3) ar))))))))
noncomputable def yD:DTS:=
 (aL (bc (uT ar) (aq 7))
 (aL (rH (k7 (ag (dC (.int 3)) ar)) (aq 8) (aL (bc (ax bD (ag (ah 2) (ag (dCB cR (ag (dOp aF (ah 4) (dC (.int 2))) ar)) ar))) (aq 9))
 (j5 (G7 (ah 7) (bH (ag (ah 9) (ag (ax xg (ag (ah 2) (ag (ah 3) (ag (dOp aF (dOp aF (dOp aF (ah 4) (dC (.int 2))) (ah 9)) (dC (.int 2))) (ag (dOp aF (dOp aF (dOp aF (ah 4) (dC (.int 2))) (ah 9)) (dC (.int 3))) ar))))) ar)))))))
 (rH (fS (dOp BG (ah 7) (dSl (ah 7) ka (wg (dC (.int 1)))))) (cC 2 (aC (aq 9) (aC (aq 10) cF))) (aL (cA (gC (dB (ax xo (ag (ah 3) (ag (ah 4) (ag (ah 9) (ag (ah 10) ar))))))) (bo (dC (.bool false))) bG)
 (aL (bc (dOp aF (dOp aF (ah 4) (dC (.int 2))) (ah 9)) (cC 4 (aC (aq 11) (aC (aq 12) (aC (aq 13) (aC (aq 14) cF))))))
 (aL (bc (bH (ag (ah 13) (ag (ah 14) (ag (bH (ag (bH (ag (bH (ag (dC (.int 0)) (ag (dC (.int 0)) (ag (dC (.int 1)) ar)))) (ag (bH (ag (dC (.int 0)) (ag (dC (.int 0)) (ag (dC (.int 1)) ar)))) (ag (ah 13) (ag (ah 14) ar))))) ar)) ar)))) (aq 15))
 (cA (dB (dOp (cU true) (ax qc (ag (ah 3) (ag (ah 4) (ag (ah 9) (ag (ah 15) ar))))) (ah 4))) (bo (dC (.bool false))) bG)))))))
noncomputable def Hv:DTS:=
 (aL (rH (k7 (ag (dCB (DY max) (ag (dC (.int 2)) (ag (dCB (DY min) (ag (dC (.int 4)) (ag (dCB cR (ag (ah 0) ar)) ar))) ar))) ar)) (aq 1) (aL (bc (ax Iv (ag (ah 0) (ag (ah 1) ar))) (aq 2))
 (aL (bc (ax xx (ag (ah 2) ar)) (aq 3))
 (aL (bc (ax pR (ag (ah 2) (ag (ah 3) ar))) (aq 4))
 (aL (bc (ax sA (ag (ah 2) (ag (ah 3) ar))) (aq 5))
 (aL (bc (ax iV (ag (ah 3) (ag (ah 4) (ag (ah 5) ar)))) (aq 6))
 (aL (cA (qu (dB (dOp (cU true) (ah 6) (ax pV (ag (ah 3) (ag (ah 4) (ag (ah 5) ar)))))) (dB (dOp (cU true) (ax iV (ag (ah 3) (ag (ah 6) (ag (ax dS (ag (ah 3) (ag (ah 5) ar))) ar)))) (ah 4)))) (bo (dC (.bool false))) bG)
 (yD))))))))
 (bo (dC (.bool true))))
theorem Fm{ds:List D}{U:Mu}{X:Mu->Prop}(h:yP ds U X):ds.length=4:=HW h
theorem lI{U:Mu}{Qd:DK}{ea fa:Addr}(q:Qd (.v (.str "TooMany")) U):fG ea {nx:=fun _ _=>False,rt:=Qd} [some (.o fa),some (.o ea),none,none] U:=by
 unfold fG
 simp only[↓Bl,↓ME,↓Fe,↓Fn,↓vj,↓Bj,↓q_c,↓My,↓FX,↓GD,↓qm,map_some,set_cons_zero,set_cons_succ]
 refine MG (ns:=[("NoRoot",false),("NoNumber",false),("NoLaying",false),("NoTile",false),("NoFit",false),("NoKinds",false),("NoPlan",false),("NoSpot",false),("NoNet",false),("NoText",false),("NoSaying",false),("NoName",false),("TooMany",true)]) rfl ⋯ ?_
 simp only[↓qm,↓Bl,set_cons_zero,set_cons_succ,map_cons,map_nil,filterMap_cons,List.filterMap_nil,Ly,false_eq_true,↓reduceIte]
 simp only[↓MP,↓HM,↓q_B,↓Q9,↓Su,↓vj,↓Bj,↓zz,↓yy,↓q_c,↓EW,↓My,↓Gy,↓xV,List.getElem?_cons_zero,List.getElem?_cons_succ,length_cons,length_nil]
 exact q
section
variable {U:Mu}{Qd:DK}{ds:List D}
theorem xF(h:xo ds U Qd):jH ‹Qd› (aK ["_law_d","_law_laying_here","_law_place","_law_other"] ds) U:=by
 obtain⟨d,w,h,ts,p,t,w',h',us,rfl,P,q⟩:=h
 unfold jH yd
 rw[eV (w:=w),eV (w:=w')]
 walk_at "rb"
 rw[length_map,length_map]
 by_cases c:61<ts.length+us.length
 ·rw[gP (by rw[decide_eq_true_eq];omega)]
  walk_at "rb"
  rw[MJ,PF]
  walk_at "rb"
  refine⟨d,w,h,ts,p,t,w',h',us,rfl,P,c,?_⟩
  walk_at "rb"
  exact eq_str nofun q
 ·rw[eN (by rw[decide_eq_true_eq];omega)]
  walk_at "rb"
  refine⟨d,w,h,ts,p,t,w',h',us,rfl,P,∅,?_⟩
  walk_at "rb"
  refine⟨d,w,h,ts,p,t,w',h',us,rfl,P,∅,?_⟩
  walk_at "rb"
  refine xB rfl ?_
  exact q
theorem QP{l:Addr}{lo hi:Option Int}{Q:DK}:JY (.m l) lo hi U Q=(match U l with|some xs=>Q (.v (.list (lC xs lo hi))) U|none=>False):=propext Iff.rfl
theorem OP{d:Int}{w h:N3}{ts:List Tl}{p:Nat}{t:Tl}(L:kY d 13 w h ts)(hp:ts[p]? = some t):vE d w h ts p t t.w t.h [⟨ay,ay,t.w,t.h⟩]/\E2 d ts p t t.w [⟨ay,ay,t.w,t.h⟩]=ts:=by
 have hd:=L.root
 have mt:=mem_of_getElem? hp
 have v:=L.dQ.tile t mt
 have b:=L.bd t mt
 have n:=nrm hd v.ow v.sw
 have b0:Bd 1 ay:=⟨Sz.of ⋯,Sz.of ⋯,Sz.of ⋯⟩
 refine⟨⟨L.mono ⋯,⟨hd,Pw hd v.ow v.oh v.sw v.sh,by show 1<=60;decide,b.w.mono ⋯,b.h.mono ⋯,fun u hu=>?_⟩,hp,rfl⟩,?_⟩
 ·rw[List.mem_singleton.mp hu]
  exact⟨b0.mono ⋯,b0.mono ⋯,b.w.mono ⋯,b.h.mono ⋯⟩
 ·have e:KA d (times d t.w (bb d t.w)) t.x t.y ⟨ay,ay,t.w,t.h⟩=t:=by
   unfold KA
   dsimp only
   rw[gv v.ow n,ug vi,GF v.ox,GF v.oy,Gi v.ow,Gi v.oh]
  unfold E2
  rw[map_cons,map_nil,e,<- take_snoc hp,List.take_append_drop]
noncomputable def Tu(d:Int)(w h:N3)(ts:List Tl)(x:PyData):Prop:=∃p t w' h' us,x = .tuple [.int ((p:Nat):Int),cH w' h' us]/\vE d w h ts p t w' h' us
theorem Rc(h:xH ds U Qd):Hv ‹Qd› (aK ["_law_script","_law_k","_law_bag_here","_law_d","_law_laying_here","_law_factor","_law_grown_here","_law_some","_law_turn","_law_place","_law_other","_law_x","_law_y","_law_w","_law_h","_law_alone"] ds) U:=by
 obtain⟨ns,rfl,h63,q⟩:=h
 have one_:∀(a:Addr) (d:Int) (w h:N3) (ts:List Tl) (r1 r5 r6 r7 r8 r9 r10 r11 r12 r13 r14 r15:Option D) (v6:Mu) (Dd:BF),kY d 13 w h ts->Bag v6 a->(∀r1 r5 r6 r7 r8 r9 r10 r11 r12 r13 r14 r15 Z,Dd.nx [some (.s ns),r1,some (.m a),some (.v (.int d)),some (.v (cH w h ts)),r5,r6,r7,r8,r9,r10,r11,r12,r13,r14,r15] Z)->yD Dd [some (.s ns),r1,some (.m a),some (.v (.int d)),some (.v (cH w h ts)),r5,r6,r7,r8,r9,r10,r11,r12,r13,r14,r15] v6:=by
  intro a d w h ts r1 r5 r6 r7 r8 r9 r10 r11 r12 r13 r14 r15 v6 Dd L hb nx
  have hd:=L.root
  have l60:=L.l60
  have l0:=L.dQ.some
  unfold yD
  walk_at "rbv"
  intro f hf
  have af:=rD hb hf
  rw[mi]
  walk_at "rbv"
  refine⟨⋯,fun j ρ Z=>∃r8 r9,ρ=[some (.s ns),r1,some (.m a),some (.v (.int d)),some (.v (cH w h ts)),r5,r6,some (.m f),r8,r9,r10,r11,r12,r13,r14,r15]/\Bag Z a/\∃es,Z f=some es/\es.length=j/\∀x∈es,Tu d w h ts x,⟨_,_,rfl,hb.off af,[],aM,rfl,fun _ z=>absurd z not_mem_nil⟩,?_,?_⟩
  ·rintro j x ρ ad hx ⟨r8,r9,rfl,hb1,es,ef,le,he⟩
   obtain⟨rfl,hj⟩:=vZ hx
   rw[eV]
   walk_at "rbv"
   rw[length_map]
   refine⟨a,_,rfl,∅,∅,hb1,fun r am r0 rl s2=>?_⟩
   obtain⟨p,rfl⟩:∃p:Nat,r=(p:Int):=⟨r.toNat,∅⟩
   have hp:p<ts.length:=by omega
   have ep:ts[p]? = some ts[p]:=getElem?_eq_getElem hp
   generalize ts[p]=t at ep
   have mt:=mem_of_getElem? ep
   have v:=L.dQ.tile t mt
   have b:=L.bd t mt
   have eD:atI (ts.map tlD) (p:Int)=some (tlD t):=pW (by rw[getElem?_map,ep];rfl)
   walk_at "rbv"
   rw[eD]
   dsimp only
   rw[oJ]
   walk_at "rbv"
   rw[eD]
   dsimp only
   rw[oJ]
   walk_at "rbv"
   refine⟨a,d,t.w,t.h,rfl,hd,s2.1,v.ow,v.oh,b.w.mono ⋯,b.h.mono ⋯,v.sw,v.sh,fun fc us bi ofc sfc M s3=>?_⟩
   walk_at "rbv"
   rw[s3.2 f af.symm es (by rw[s2.2 f af.symm];exact ef)]
   dsimp only
   refine⟨∅,_,_,rfl,s3.1.off af,_,aM,by rw[length_append,le];rfl,fun x hx=>?_⟩
   rcases List.mem_append.mp hx with z|z
   ·exact he x z
   ·rw[List.mem_singleton.mp z]
    have nw:=nrm hd v.ow v.sw
    have nwf:=nrm hd (aV v.ow ofc) M.dQ.sw
    exact⟨p,t,_,_,us,rfl,⟨L.mono ⋯,M,ep,(KG hd v.ow v.oh ofc nw nwf).symm⟩⟩
  ·rintro ρ ad ⟨r8,r9,rfl,hb1,es,ef,le,he⟩
   rw[mi]
   walk_at "rbv"
   rw[QP,ef]
   dsimp only
   have le':es.length=3:=le
   have mem1:∀x∈es++lC es none (some 1),Tu d w h ts x:=fun x hx=>by
    rcases List.mem_append.mp hx with z|z
    ·exact he x z
    ·have:=zB (xs:=es) (p:=1) ∅
     rw[show ((1:Nat):Int)=1 from rfl] at this
     rw[this] at z
     exact he x (List.mem_of_mem_take z)
   refine⟨?_,fun i ρ Z=>∃r1 r5 r6 r7 r8 r9 r10 r11 r12 r13 r14 r15,ρ=[some (.s ns),r1,some (.m a),some (.v (.int d)),some (.v (cH w h ts)),r5,r6,r7,r8,r9,r10,r11,r12,r13,r14,r15],⟨_,_,_,_,_,_,_,_,_,_,_,_,rfl⟩,?_,?_⟩
   ·have:=zB (xs:=es) (p:=1) ∅
    rw[show ((1:Nat):Int)=1 from rfl] at this
    rw[this,length_take]
    omega
   ·rintro i x ρ am hx ⟨r1,r5,r6,r7,r8,r9,r10,r11,r12,r13,r14,r15,rfl⟩
    obtain⟨p,t,w',h',us,rfl,P⟩:=mem1 x (mem_of_getElem? hx)
    obtain⟨P1,e1⟩:=OP L P.at_
    walk_at "rbv"
    refine⟨trivial,d,w,h,ts,p,t,w',h',us,rfl,P,?_⟩
    rw[eV (w:=w)]
    walk_at "rbv"
    rw[P.atD]
    dsimp only
    rw[oJ]
    walk_at "rbv"
    refine⟨trivial,d,w,h,ts,p,t,t.w,t.h,_,rfl,P1,by show ts.length+1<=61;omega,?_⟩
    rw[e1]
    walk_at "rbv"
    refine xB rfl ?_
    walk_at "rbv"
    exact⟨_,_,_,_,_,_,_,_,_,_,_,_,rfl⟩
   ·rintro ρ am ⟨r1,r5,r6,r7,r8,r9,r10,r11,r12,r13,r14,r15,rfl⟩
    exact nx ..
 unfold Hv
 walk_at "rbv"
 rw[mi]
 walk_at "rbv"
 have hm:(-(2 ^ 62)<=max 2 (min 4 ((ns.length:Nat):Int))/\max 2 (min 4 ((ns.length:Nat):Int))<2 ^ 62):=by omega
 refine⟨hm,fun i ρ Z=>∃r1 r2 r3 r4 r5 r6 r7 r8 r9 r10 r11 r12 r13 r14 r15,ρ=[some (.s ns),r1,r2,r3,r4,r5,r6,r7,r8,r9,r10,r11,r12,r13,r14,r15],⟨_,_,_,_,_,_,_,_,_,_,_,_,_,_,_,rfl⟩,?_,?_⟩
 ·rintro i x ρ v6 hx ⟨r1,r2,r3,r4,r5,r6,r7,r8,r9,r10,r11,r12,r13,r14,r15,rfl⟩
  obtain⟨rfl,hi⟩:=vZ hx
  walk_at "rbv"
  refine⟨ns,_,rfl,∅,∅,fun a ad ha s1=>?_⟩
  walk_at "rbv"
  refine⟨a,rfl,s1.1,fun d am hd s2=>?_⟩
  walk_at "rbv"
  refine⟨a,d,rfl,hd,s2.1,fun t ge dr s4=>?_⟩
  obtain⟨w,h,ts,rfl,lr,lv⟩:=dr.r hd
  have L:kY d 13 w h ts:=⟨hd,lr,lv.l60,lv.bw,lv.bh,lv.bd⟩
  have L1:=L.mono (show 13<=2000 by decide)
  have sz:=zA hd.1 hd.2.1
  walk_at "rbv"
  refine⟨a,d,rfl,hd,s4.1,fun f ii of bf sf s5=>?_⟩
  have nf:=nrm hd of sf
  have tk:∀t∈ts,TOk t:=fun t ht=>L.tok ht
  have G:kY d 2000 (times d w f) (times d h f) (ts.map (n8 d f)):=⟨hd,L.r.str hd of sf,by rw[length_map];exact L.l60,(eS sz L.dQ.ow of L.bw bf).mono ⋯,(eS sz L.dQ.oh of L.bh bf).mono ⋯,fun t ht=>by
   obtain⟨u,hu,rfl⟩:=List.mem_map.mp ht
   exact (xr sz (tk u hu) of (L.bd u hu) bf).mono ⋯⟩
  have F:Hi d 2000 f:=⟨hd,of,bf.mono ⋯⟩
  walk_at "rbv"
  refine⟨d,w,h,ts,f,rfl,L1,F,sf,?_⟩
  walk_at "rbv"
  refine⟨d,w,h,ts,f,rfl,L.dQ.ow,L.dQ.oh,L1.bw,L1.bh,L1.tsb ⋯,F,?_⟩
  walk_at "rbv"
  refine xB rfl ?_
  walk_at "rbv"
  refine⟨d,f,rfl,sz,nf,bf.mono ⋯,?_⟩
  walk_at "rbv"
  refine⟨d,_,_,_,bb d f,rfl,G,⟨hd,bB nf,(ko sz nf bf).mono ⋯⟩,FG hd of sf,?_⟩
  walk_at "rbv"
  rw[pC L.dQ.ow of nf,pC L.dQ.oh of nf,L6 tk of nf]
  refine xB rfl ?_
  walk_at "rbv"
  refine one_ a d w h ts _ _ _ _ _ _ _ _ _ _ _ _ ii _ L s5.1 ?_
  intros
  exact⟨_,_,_,_,_,_,_,_,_,_,_,_,_,_,_,rfl⟩
 ·rintro ρ Z ⟨r1,r2,r3,r4,r5,r6,r7,r8,r9,r10,r11,r12,r13,r14,r15,rfl⟩
  exact q _
end
end L2.DL
namespace K12
open PySem L2 L2.DL
local macro_rules|`(tactic| walk_at "cl")=>`(tactic| (intro _ _ h;first|exact h|exact cl1 h|exact cl2 nofun h|exact cl3 nofun h|exact md (ej rfl wY) _ _ h|exact md (ej rfl (ej rfl wY)) _ _ h|exact md (ej rfl (ej rfl (ej rfl wY))) _ _ h|exact md (ej rfl (ej rfl (ej rfl (ej rfl wY)))) _ _ h|exact md (ej rfl (ej rfl (ej rfl (ej rfl (ej rfl wY))))) _ _ h|exact md (ej rfl (ej rfl (ej rfl (ej rfl (ej rfl (ej rfl wY)))))) _ _ h|exact md (ej rfl (ej rfl (ej rfl (ej rfl (ej rfl (ej rfl (ej rfl wY))))))) _ _ h|exact md wY _ _ h|cases h))
set_option genInjectivity false in
structure Adr where
 yt:Addr
 yS:FuncData
 lZ:Addr
 lO:FuncData
 wu:Addr
 wJ:FuncData
 mj:Addr
 mh:FuncData
 Gk:Addr
 Gs:FuncData
 Nb:Addr
 NU:FuncData
 Ie:Addr
 JC:FuncData
 Nq:Addr
 Lf:FuncData
 yX:Addr
 zg:FuncData
 A9:Addr
 A8:FuncData
 nN:Addr
 nW:FuncData
 zj:Addr
 yx:FuncData
 km:Addr
 kj:FuncData
 gg:Addr
 fN:FuncData
 BU:Addr
 BO:FuncData
 zU:Addr
 yA:FuncData
 wm:Addr
 wB:FuncData
 qN:Addr
 qH:FuncData
 pO:Addr
 o5:FuncData
 pK:Addr
 oG:FuncData
 qD:Addr
 rf:FuncData
 vJ:Addr
 wQ:FuncData
 mz:Addr
 lE:FuncData
 wG:Addr
 wt:FuncData
 ky:Addr
 kv:FuncData
 Bv:Addr
 Bh:FuncData
 Ag:Addr
 xQ:FuncData
 zD:Addr
 yf:FuncData
 oM:Addr
 o7:FuncData
 qO:Addr
 qJ:FuncData
 sL:Addr
 sM:FuncData
 tQ:Addr
 sJ:FuncData
 yR:Addr
 zV:FuncData
 qY:Addr
 qV:FuncData
 wM:Addr
 vK:FuncData
 nO:Addr
 nV:FuncData
 v7:Addr
 v5:FuncData
 yi:Addr
 xT:FuncData
 wa:Addr
 wz:FuncData
 wR:Addr
 vX:FuncData
 qw:Addr
 qE:FuncData
 nR:Addr
 n6:FuncData
 uE:Addr
 tV:FuncData
 wd:Addr
 wA:FuncData
 sN:Addr
 uH:FuncData
 wj:Addr
 vY:FuncData
 wF:Addr
 wI:FuncData
 tw:Addr
 sW:FuncData
 tM:Addr
 sZ:FuncData
 wb:Addr
 wo:FuncData
 kq:Addr
 j9:FuncData
 qR:Addr
 qy:FuncData
 vM:Addr
 wq:FuncData
 ub:Addr
 tN:FuncData
 qX:Addr
 qC:FuncData
 ui:Addr
 tH:FuncData
 uo:Addr
 tZ:FuncData
 qI:Addr
 lh:FuncData
 Qs:Addr
 P7:FuncData
 AX:Tok
 Kt:Addr
 dA:Addr
 ju:Addr
 fD:Addr
 fE:Addr
 jo:Addr
 lG:Addr
 ib:Addr
 jq:Addr
 jt:Addr
 lJ:Addr
 jr:Addr
 fF:Addr
 jn:Addr
 aA:Addr
 cX:Addr
 eT:Addr
structure Txt(K:PySem.W.Frag)(mg:Str->Option Value)(t:Adr):Prop where
 jN:Cal K mg "is_whole" ["thing"] jX t.yt t.yS
 gW:Cal K mg "common_divisor" ["a","b"] de t.lZ t.lO
 ku:Cal K mg "is_number" ["thing"] iT t.wu t.wJ
 gZ:Cal K mg "divisor_of_all" ["a","b","c"] cZ t.mj t.mh
 uJ:Cal K mg "number" ["a","b","c"] oo t.Gk t.Gs
 zL:Cal K mg "plus" ["x","y"] zS t.Nb t.NU
 tF:Cal K mg "times" ["d","x","y"] uL t.Ie t.JC
 vf:Cal K mg "over" ["d","x","y"] zG t.Nq t.Lf
 Ab:Cal K mg "contrary" ["d","x"] jM t.yX t.zg
 qi:Cal K mg "sign_of" ["d","x"] lF t.A9 t.A8
 i5:Cal K mg "sign_of_parts" ["d","a","b"] dw t.nN t.nW
 yn:Cal K mg "is_above" ["d","x","y"] jP t.zj t.yx
 b8:Cal K mg "is_above_nought" ["d","thing"] cS t.km t.kj
 gL:Cal K mg "must_be_above_nought" ["d","thing"] bK t.gg t.fN
 BN:Cal K mg "is_tile" ["d","thing"] mB t.BU t.BO
 xI:Cal K mg "has_form" ["d","thing"] jB t.zU t.yA
 vV:Cal K mg "bounds_of" ["tile"] iR t.wm t.wB
 qA:Cal K mg "place_among" ["d","marks","x"] eP t.qN t.qH
 jy:Cal K mg "rising_marks" ["d","found"] dZ t.pO t.o5
 jG:Cal K mg "reaches_just" ["marks","end"] dY t.pK t.oG
 qT:Cal K mg "covers_once" ["bounds","across","upward"] eJ t.qD t.rf
 vO:Cal K mg "is_laying" ["d","thing"] iU t.vJ t.wQ
 cw:Cal K mg "must_be_laying" ["d","thing"] da t.mz t.lE
 oi:Cal K mg "stretched" ["d","laying","factor"] iW t.wG t.wt
 gn:Cal K mg "stretched_tiles" ["d","tiles","factor"] cQ t.ky t.kv
 BD:Cal K mg "shifted" ["tile","right","up"] mr t.Bv t.Bh
 rC:Cal K mg "is_place" ["thing","many"] jW t.Ag t.xQ
 jT:Cal K mg "put_in" ["d","laying","place","other"] oq t.zD t.yf
 gB:Cal K mg "_law_refusal" ["_law_deed"] d0 t.oM t.o7
 qS:Cal K mg "_law_put_by" ["_law_d","_law_laying_here","_law_place","_law_other"] eK t.qO t.qJ
 jh:Cal K mg "_law_grown" ["_law_d","_law_laying_here","_law_factor"] gM t.sL t.sM
 d8:Cal K mg "_law_times" ["_law_d","_law_x","_law_y"] fK t.tQ t.sJ
 dR:Cal K mg "_law_low" ["_law_a","_law_b","_law_c"] jZ t.yR t.zV
 kD:Cal K mg "_law_shared" ["_law_one","_law_other"] eM t.qY t.qV
 vU:Cal K mg "_law_over" ["_law_d","_law_x","_law_y"] iS t.wM t.vK
 iZ:Cal K mg "_law_contrary" ["_law_d","_law_x"] dy t.nO t.nV
 iQ:Cal K mg "_law_plus" ["_law_x","_law_y"] iE t.v7 t.v5
 zq:Cal K mg "_law_bag" ["_law_script","_law_at"] jK t.yi t.xT
 vR:Cal K mg "_law_root" ["_law_bag_here"] iD t.wa t.wz
 aD:Cal K mg "_law_take" ["_law_bag_here","_law_many"] iH t.wR t.vX
 qG:Cal K mg "_law_laying" ["_law_bag_here","_law_d"] eL t.qw t.qE
 i7:Cal K mg "_law_pinwheel" ["_law_bag_here"] du t.nR t.n6
 nG:Cal K mg "_law_floor" ["_law_bag_here","_law_d","_law_columns","_law_rows","_law_blocks_here"] gG t.uE t.tV
 oN:Cal K mg "_law_ends" ["_law_sides_here"] iL t.wd t.wA
 mV:Cal K mg "_law_sides" ["_law_bag_here","_law_d","_law_many"] gw t.sN t.uH
 oj:Cal K mg "_law_side" ["_law_bag_here","_law_d","_law_way"] iO t.wj t.vY
 pj:Cal K mg "_law_sign" ["_law_d","_law_x"] iP t.wF t.wI
 jj:Cal K mg "_law_minus" ["_law_x"] gj t.tw t.sW
 mY:Cal K mg "_law_mixed" ["_law_bag_here","_law_row"] fY t.tM t.sZ
 iX:Cal K mg "_law_less" ["_law_x","_law_y"] iJ t.wb t.wo
 kf:Cal K mg "_law_many_cells" ["_law_bag_here"] cO t.kq t.j9
 lu:Cal K mg "_law_blocks" ["_law_bag_here","_law_columns","_law_rows"] eR t.qR t.qy
 wD:Cal K mg "_law_room" ["_law_met","_law_column","_law_row","_law_columns"] iG t.vM t.wq
 sC:Cal K mg "_law_above" ["_law_bag_here","_law_d"] fT t.ub t.tN
 qP:Cal K mg "_law_number" ["_law_bag_here"] eQ t.qX t.qC
 uO:Cal K mg "_law_inner" ["_law_bag_here","_law_d","_law_wide","_law_high"] fW t.ui t.tH
 nB:Cal K mg "_law_marks" ["_law_bag_here","_law_d","_law_side_here","_law_many"] fM t.uo t.tZ
 q5:Cal K mg "_law_is_put" ["_law_d","_law_laying_here","_law_place","_law_other"] eO t.qI t.lh
 Tx:Cal K mg "law" ["_law_script"] uK t.Qs t.P7
 aX:mg "isinstance"=none
 BS:mg "int"=none
 QK:mg "bool"=none
 Fq:mg "abs"=none
 eX:mg "tuple"=none
 dW:mg "len"=none
 TJ:mg "all"=none
 Tv:mg "set"=none
 gH:mg "range"=none
 vL:mg "enumerate"=none
 Ci:mg "ValueError"=none
 Sj:mg "list"=none
 MT:mg "min"=none
 P6:mg "sum"=none
 TV:mg "max"=none
 nC:mg "MOST_TILES"=some (.int 60 t.AX)
 FA:TB K mg "NOUGHT" t.Kt 0 0 1
 Ed:mg "FloorError"=some (.ref t.dA)
 Mg:mg "NoRoot"=some (.ref t.ju)
 GV:mg "NoNumber"=some (.ref t.fD)
 Hj:mg "NoLaying"=some (.ref t.fE)
 Nj:mg "NoTile"=some (.ref t.jo)
 PJ:mg "NoFit"=some (.ref t.lG)
 KR:mg "NoKinds"=some (.ref t.ib)
 Mp:mg "NoPlan"=some (.ref t.jq)
 NF:mg "NoSpot"=some (.ref t.jt)
 Oj:mg "NoNet"=some (.ref t.lJ)
 Nu:mg "NoText"=some (.ref t.jr)
 GX:mg "NoSaying"=some (.ref t.fF)
 MY:mg "NoName"=some (.ref t.jn)
 Bu:mg "TooMany"=some (.ref t.aA)
 ve:excIn K (t.aA) bmV "ValueError.__new__"=true
 uV:exmOne K (.ref t.aA) (.ref t.dA)=some true
 gS:kitOne K (.ref t.aA) (.ref t.ju)=some false
 fw:kitOne K (.ref t.aA) (.ref t.fD)=some false
 fh:kitOne K (.ref t.aA) (.ref t.fE)=some false
 ik:kitOne K (.ref t.aA) (.ref t.jo)=some false
 ja:kitOne K (.ref t.aA) (.ref t.lG)=some false
 gz:kitOne K (.ref t.aA) (.ref t.ib)=some false
 ir:kitOne K (.ref t.aA) (.ref t.jq)=some false
 gQ:kitOne K (.ref t.aA) (.ref t.jt)=some false
 i9:kitOne K (.ref t.aA) (.ref t.lJ)=some false
 g8:kitOne K (.ref t.aA) (.ref t.jr)=some false
 fu:kitOne K (.ref t.aA) (.ref t.fF)=some false
 gR:kitOne K (.ref t.aA) (.ref t.jn)=some false
 fO:kitOne K (.ref t.aA) (.ref t.aA)=some true
 pL:kitOne K (.ref t.aA) (.type "ValueError")=some true
 bW:xK K t.aA
 Ak:Uq K mg t.cX t.eT "_law_is_put"
 yp:t.lh.code = .ref t.cX
structure EQ where
 P:Program
 w:World
 K:PySem.W.Frag
 mg:Str->Option Value
 base:Heap
 t:Adr
noncomputable abbrev FO(e:EQ)(k:Nat)(a:Addr)(d:FuncData)(ps:List Str)(sp:DSp):Prop:=iY e.P e.w e.K e.mg e.base CX0 k a d ps (spD e.K sp)
noncomputable abbrev TX(e:EQ):Prop:=Txt e.K e.mg e.t
noncomputable abbrev pN(e:EQ):Prop:=FO e 1 e.t.yt e.t.yS ["thing"] nI
noncomputable abbrev kr(e:EQ):Prop:=FO e 1 e.t.lZ e.t.lO ["a","b"] tO
noncomputable abbrev mR(e:EQ):Prop:=FO e 3 e.t.wu e.t.wJ ["thing"] vb
noncomputable abbrev fZ(e:EQ):Prop:=FO e 2 e.t.mj e.t.mh ["a","b","c"] yG
noncomputable abbrev pY(e:EQ):Prop:=FO e 3 e.t.Gk e.t.Gs ["a","b","c"] cE
noncomputable abbrev CN(e:EQ):Prop:=FO e 4 e.t.Nb e.t.NU ["x","y"] ig
noncomputable abbrev tU(e:EQ):Prop:=FO e 4 e.t.Ie e.t.JC ["d","x","y"] dI
noncomputable abbrev B8(e:EQ):Prop:=FO e 5 e.t.Nq e.t.Lf ["d","x","y"] nk
noncomputable abbrev wx(e:EQ):Prop:=FO e 4 e.t.yX e.t.zg ["d","x"] dS
noncomputable abbrev rL(e:EQ):Prop:=FO e 2 e.t.A9 e.t.A8 ["d","x"] kJ
noncomputable abbrev hV(e:EQ):Prop:=FO e 1 e.t.nN e.t.nW ["d","a","b"] sF
noncomputable abbrev vT(e:EQ):Prop:=FO e 2 e.t.zj e.t.yx ["d","x","y"] xi
noncomputable abbrev dg(e:EQ):Prop:=FO e 4 e.t.km e.t.kj ["d","thing"] iN
noncomputable abbrev fz(e:EQ):Prop:=FO e 5 e.t.gg e.t.fN ["d","thing"] ki
noncomputable abbrev yF(e:EQ):Prop:=FO e 5 e.t.BU e.t.BO ["d","thing"] D6
noncomputable abbrev vQ(e:EQ):Prop:=FO e 6 e.t.zU e.t.yA ["d","thing"] xh
noncomputable abbrev sv(e:EQ):Prop:=FO e 5 e.t.wm e.t.wB ["tile"] pS
noncomputable abbrev pq(e:EQ):Prop:=FO e 3 e.t.qN e.t.qH ["d","marks","x"] ue
noncomputable abbrev nZ(e:EQ):Prop:=FO e 4 e.t.pO e.t.o5 ["d","found"] pU
noncomputable abbrev nU(e:EQ):Prop:=FO e 1 e.t.pK e.t.oG ["marks","end"] tP
noncomputable abbrev oK(e:EQ):Prop:=FO e 1 e.t.qD e.t.rf ["bounds","across","upward"] yL
noncomputable abbrev uR(e:EQ):Prop:=FO e 7 e.t.vJ e.t.wQ ["d","thing"] um
noncomputable abbrev dJ(e:EQ):Prop:=FO e 8 e.t.mz e.t.lE ["d","thing"] fA
noncomputable abbrev uN(e:EQ):Prop:=FO e 9 e.t.wG e.t.wt ["d","laying","factor"] iV
noncomputable abbrev fo(e:EQ):Prop:=FO e 5 e.t.ky e.t.kv ["d","tiles","factor"] tX
noncomputable abbrev x6(e:EQ):Prop:=FO e 5 e.t.Bv e.t.Bh ["tile","right","up"] p4
noncomputable abbrev oQ(e:EQ):Prop:=FO e 2 e.t.Ag e.t.xQ ["thing","many"] uS
noncomputable abbrev uU(e:EQ):Prop:=FO e 9 e.t.zD e.t.yf ["d","laying","place","other"] qc
noncomputable abbrev pG(e:EQ):Prop:=FO e 5 e.t.qO e.t.qJ ["_law_d","_law_laying_here","_law_place","_law_other"] xk
noncomputable abbrev iC(e:EQ):Prop:=FO e 4 e.t.sL e.t.sM ["_law_d","_law_laying_here","_law_factor"] pV
noncomputable abbrev ix(e:EQ):Prop:=FO e 3 e.t.tQ e.t.sJ ["_law_d","_law_x","_law_y"] dI
noncomputable abbrev dX(e:EQ):Prop:=FO e 2 e.t.yR e.t.zV ["_law_a","_law_b","_law_c"] cE
noncomputable abbrev oE(e:EQ):Prop:=FO e 1 e.t.qY e.t.qV ["_law_one","_law_other"] tO
noncomputable abbrev ua(e:EQ):Prop:=FO e 4 e.t.wM e.t.vK ["_law_d","_law_x","_law_y"] xn
noncomputable abbrev gU(e:EQ):Prop:=FO e 3 e.t.nO e.t.nV ["_law_d","_law_x"] dS
noncomputable abbrev ji(e:EQ):Prop:=FO e 3 e.t.v7 e.t.v5 ["_law_x","_law_y"] ig
noncomputable abbrev wH(e:EQ):Prop:=FO e 1 e.t.yi e.t.xT ["_law_script","_law_at"] Iv
noncomputable abbrev uu(e:EQ):Prop:=FO e 2 e.t.wa e.t.wz ["_law_bag_here"] xx
noncomputable abbrev bz(e:EQ):Prop:=FO e 1 e.t.wR e.t.vX ["_law_bag_here","_law_many"] ng
noncomputable abbrev oW(e:EQ):Prop:=FO e 6 e.t.qw e.t.qE ["_law_bag_here","_law_d"] pR
noncomputable abbrev ip(e:EQ):Prop:=FO e 2 e.t.nR e.t.n6 ["_law_bag_here"] jR
noncomputable abbrev qZ(e:EQ):Prop:=FO e 5 e.t.uE e.t.tV ["_law_bag_here","_law_d","_law_columns","_law_rows","_law_blocks_here"] oZ
noncomputable abbrev su(e:EQ):Prop:=FO e 4 e.t.wd e.t.wA ["_law_sides_here"] DZ
noncomputable abbrev qx(e:EQ):Prop:=FO e 4 e.t.sN e.t.uH ["_law_bag_here","_law_d","_law_many"] tL
noncomputable abbrev sD(e:EQ):Prop:=FO e 3 e.t.wj e.t.vY ["_law_bag_here","_law_d","_law_way"] sQ
noncomputable abbrev mP(e:EQ):Prop:=FO e 1 e.t.wF e.t.wI ["_law_d","_law_x"] kJ
noncomputable abbrev iy(e:EQ):Prop:=FO e 1 e.t.tw e.t.sW ["_law_x"] qh
noncomputable abbrev kU(e:EQ):Prop:=FO e 2 e.t.tM e.t.sZ ["_law_bag_here","_law_row"] oI
noncomputable abbrev mG(e:EQ):Prop:=FO e 4 e.t.wb e.t.wo ["_law_x","_law_y"] rN
noncomputable abbrev jS(e:EQ):Prop:=FO e 2 e.t.kq e.t.j9 ["_law_bag_here"] xt
noncomputable abbrev jz(e:EQ):Prop:=FO e 2 e.t.qR e.t.qy ["_law_bag_here","_law_columns","_law_rows"] uh
noncomputable abbrev sj(e:EQ):Prop:=FO e 1 e.t.vM e.t.wq ["_law_met","_law_column","_law_row","_law_columns"] CK
noncomputable abbrev qB(e:EQ):Prop:=FO e 4 e.t.ub e.t.tN ["_law_bag_here","_law_d"] sA
noncomputable abbrev o8(e:EQ):Prop:=FO e 3 e.t.qX e.t.qC ["_law_bag_here"] qo
noncomputable abbrev qL(e:EQ):Prop:=FO e 5 e.t.ui e.t.tH ["_law_bag_here","_law_d","_law_wide","_law_high"] xg
noncomputable abbrev qK(e:EQ):Prop:=FO e 4 e.t.uo e.t.tZ ["_law_bag_here","_law_d","_law_side_here","_law_many"] pJ
noncomputable abbrev ph(e:EQ):Prop:=FO e 12 e.t.qI e.t.lh ["_law_d","_law_laying_here","_law_place","_law_other"] xo
noncomputable abbrev NJ(e:EQ):Prop:=FO e 13 e.t.Qs e.t.P7 ["_law_script"] xH
noncomputable abbrev jU(e:EQ):Prop:=iY e.P e.w e.K e.mg e.base (CX1 e.P e.w) 9 e.t.zD e.t.yf ["d","laying","place","other"] (spX e.K (.ref e.t.aA) yP)
noncomputable abbrev wO(e:EQ):Prop:=Lm e.P e.w e.K e.mg e.base 10 e.t.oM e.t.o7 "_law_deed" (.ref e.t.aA) "TooMany"
section
variable {e:EQ}
theorem FV:aE ["thing"] ["thing"] (aw jX):=bL
theorem Gb(T:TX e):pN e:=by
 have S:=FV
 exact T.jN.f.okD S (fun ds U Q h=>EL h) (fun cdv A outer s H E hr=>⟨o3,(au (aG (mO (u6 (Ol _) rfl T.aX rfl T.BS PyProof.Rows.Boot.«int» (dv 0)) (rm (Ss (u6 (Ng _) rfl T.aX rfl T.QK PyProof.Rows.Boot.«bool» (dv 0))))))),fun ds U Qd h=>Fb h⟩)
theorem uC:aE ["a","b"] ["a","b"] (aw de):=bL
theorem sS(T:TX e):kr e:=by
 have S:=uC
 exact T.gW.f.okD S (fun ds U Q h=>BR h) (fun cdv A outer s H E hr=>⟨fV,(ao (uB PassesOwn.never (aU (jV hr.units) bA (dv 1) ai (aN _)) (au (kF (i:=0) (j:=1) rfl S.nd rfl rfl ⋯ rfl rfl (ae (dv 1) (ae (lz (dv 0) (dv 1)) aj)) rfl)))
  (au (aG (yu rfl T.Fq (ae (dv 0) aj))))),fun ds U Qd h=>uc h⟩)
theorem u7:aE ["d","a","b","prevailing"] ["d","a","b"] (aw dw):=bL
theorem uX(T:TX e):hV e:=by
 have S:=u7
 exact T.i5.f.okD S (fun ds U Q h=>GQ h) (fun cdv A outer s H E hr=>⟨hW,(ao (bF (DW.dt (xR (aU (cg hr.units) bA (dv 1) ai (aN _)) (sR (aU (cg hr.units) bA (dv 2) ai (aN _))))) (au (aG ai)) aW)
  (ao (bF (DW.dt (xR (aU Gq eE (dv 1) ai (aN _)) (sR (aU Gq eE (dv 2) ai (aN _))))) (au (aG ai)) aW)
  (ao (bF (DW.dt (xR (aU MX eE (dv 1) ai (aN _)) (sR (aU MX eE (dv 2) ai (aN _))))) (au (aG (mE ai))) aW)
  (ao (bg (i:=3) S.nd (Bk (aU l7 eE (aZ (dv 1) (dv 1)) (aZ (aZ (dv 0) (dv 2)) (dv 2)) (aN _)) (dv 1) (dv 2)))
  (au (aG (Bk (aU l7 eE (dv 3) ai (aN _)) ai (mE ai)))))))),fun ds U Qd h=>vn h⟩)
theorem wW:aE ["marks","end"] ["marks","end"] (aw dY):=bL
theorem xc(T:TX e):nU e:=by
 have S:=wW
 exact T.jG.f.okD S (fun ds U Q h=>E4 h) (fun cdv A outer s H E hr=>⟨i6,(au (aG (mO (eI (cg hr.units) bA (az (dv 0) ai) (FT rfl T.FA) (aN _)) (rm (eI (cg hr.units) bA (az (dv 0) (mE ai)) (dv 1) (aN _)))))),fun ds U Qd h=>w9 h⟩)
theorem zm:aE ["bounds","across","upward","columns","rows","covered","left","right","bottom","top","column","row"] ["bounds","across","upward"] (aw eJ):=bL
theorem zF(T:TX e):oK e:=by
 have S:=zm
 exact HD (T.qT.f.okD S (fun ds U Q h=>A0 h) (fun cdv A outer s H E hr=>⟨jL,(ao (Qg (i:=3) (N':=["at","x"]) (cap:=[none,none]) S.nd rfl rfl rfl hr.units (IT rfl T.vL (ae (dv 1) aj)) (fun _ _ _=>(bQ (n:=2) rfl (av (bR 0) (av (bR 1) bE)))) (fun _ _ _=>cD) (fun _ _ _=>(dv 1)) (fun _ _ _=>(dv 0)))
  (ao (Qg (i:=4) (N':=["at","y"]) (cap:=[none,none]) S.nd rfl rfl rfl hr.units (IT rfl T.vL (ae (dv 2) aj)) (fun _ _ _=>(bQ (n:=2) rfl (av (bR 0) (av (bR 1) bE)))) (fun _ _ _=>cD) (fun _ _ _=>(dv 1)) (fun _ _ _=>(dv 0)))
  (ao (bg (i:=5) S.nd (J9 rfl T.Tv))
  (ao (hJ PassesOwn.never rfl (gu (dv 0)) (bQ (n:=4) rfl (av (aY (i:=6) S.nd) (av (aY (i:=7) S.nd) (av (aY (i:=8) S.nd) (av (aY (i:=9) S.nd) bE))))) (au (hJ PassesOwn.never rfl (CY rfl T.gH (ae (C9 hr.units (dv 3) (dv 6)) (ae (C9 hr.units (dv 3) (dv 7)) aj))) (aY (i:=10) S.nd) (au (hJ PassesOwn.never rfl (CY rfl T.gH (ae (C9 hr.units (dv 4) (dv 8)) (ae (C9 hr.units (dv 4) (dv 9)) aj))) (aY (i:=11) S.nd) (ao (bF (Si hr.units (aO (ae (dv 10) (ae (dv 11) aj))) (dv 5) (by with_unfolding_all rfl)) (au (aG kA)) aW)
  (au (eu (PH hr.units (dv 5) (aO (ae (dv 10) (ae (dv 11) aj))))))))))))
  (au (aG (eI (cg hr.units) bA (Ox rfl T.dW (ae (dv 5) aj)) (aZ (cI (cG rfl T.dW (ae (dv 1) aj)) ai) (cI (cG rfl T.dW (ae (dv 2) aj)) ai)) (aN _)))))))),fun ds U Qd h=>xP h⟩)) (fun ds U Qd h=>w5 h)
theorem yO:aE ["_law_one","_law_other"] ["_law_one","_law_other"] (aw eM):=bL
theorem yW(T:TX e):oE e:=by
 have S:=yO
 exact T.kD.f.okD S (fun ds U Q h=>BR h) (fun cdv A outer s H E hr=>⟨j3,(ao (kF (i:=0) (j:=1) rfl S.nd rfl rfl ⋯ rfl rfl (ae (yu rfl T.Fq (ae (dv 0) aj)) (ae (yu rfl T.Fq (ae (dv 1) aj)) aj)) rfl)
  (ao (uB PassesOwn.never (aU l7 eE (dv 1) ai (aN _)) (au (kF (i:=0) (j:=1) rfl S.nd rfl rfl ⋯ rfl rfl (ae (dv 1) (ae (lz (dv 0) (dv 1)) aj)) rfl)))
  (au (aG (dv 0))))),fun ds U Qd h=>yT h⟩)
theorem EX:aE ["_law_script","_law_at","_law_cell","_law_great","_law_primes","_law_mixed_here"] ["_law_script","_law_at"] (aw jK):=bL
theorem FF(T:TX e):wH e:=by
 have S:=EX
 exact T.zq.f.okD S (fun ds U Q h=>KZ h) (fun cdv A outer s H E hr=>⟨oP,(ao (bg (i:=2) S.nd ai)
  (ao (bF (aU nS eE (dv 1) (cG rfl T.dW (ae (dv 0) aj)) (aN _)) (au (bg (i:=2) S.nd (az (dv 0) (dv 1)))) aW)
  (ao (bg (i:=3) S.nd ai)
  (ao (bF (aU Gq eE (yu rfl T.Fq (ae (dv 2) aj)) (MC ai ai) (aN _)) (au (bg (i:=3) S.nd (yu rfl T.Fq (ae (dv 2) aj)))) aW)
  (ao (bg (i:=4) S.nd (fj (ae ai (ae ai (ae ai (ae ai (ae ai (ae ai (ae ai (ae ai aj))))))))))
  (ao (bg (i:=5) S.nd (ba (ba (ba (aZ (lz (dv 2) ai) ai) (aZ (aZ ai (dv 1)) (dv 1))) (aZ ai (dv 1))) ai))
  (au (aG (mX (ae (dv 3) (ae (lz (dv 5) (az (dv 4) (lz (dv 1) ai))) aj))))))))))),fun ds U Qd h=>Gn h⟩)
theorem Eg:aE ["_law_bag_here","_law_many","_law_digit"] ["_law_bag_here","_law_many"] (aw iH):=bL
theorem C2(T:TX e):bz e:=by
 have S:=Eg
 exact T.aD.f.okD S (fun ds U Q h=>GJ h) (fun cdv A outer s H E hr=>⟨kM,(ao (bF (aU l7 eE (az (dv 0) ai) ai (aN _)) (ao (bg (i:=2) S.nd (lz (az (dv 0) ai) (dv 1)))
  (ao (dF (i4 (az (dv 0) ai) (dv 1)) (NA (dv 0) ai))
  (au (aG (dv 2))))) aW)
  (ao (dF (lz (ba (aZ (az (dv 0) ai) ai) ai) ai) (NA (dv 0) ai))
  (au (aG (lz (i4 (lz (MC (az (dv 0) ai) ai) ai) ai) (dv 1)))))),fun ds U Qd h=>Ah h⟩)
theorem CZ:aE ["_law_d","_law_x","_law_first","_law_second","_law_sides_here"] ["_law_d","_law_x"] (aw iP):=bL
theorem Di(T:TX e):mP e:=by
 have S:=CZ
 exact T.pj.f.okD S (fun ds U Q h=>x5 h) (fun cdv A outer s H E hr=>⟨mQ,(ao (kF (i:=2) (j:=3) rfl S.nd rfl rfl ⋯ rfl rfl (ae (aZ (az (dv 1) ai) (az (dv 1) ai)) (ae (aZ (aZ (dv 0) (az (dv 1) ai)) (az (dv 1) ai)) aj)) rfl)
  (ao (bg (i:=4) S.nd (fj (ae (cI (pf rfl T.BS (ae (eI l7 eE (az (dv 1) ai) ai (aN _)) aj)) (pf rfl T.BS (ae (eI nS eE (az (dv 1) ai) ai (aN _)) aj))) (ae (cI (pf rfl T.BS (ae (eI l7 eE (az (dv 1) ai) ai (aN _)) aj)) (pf rfl T.BS (ae (eI nS eE (az (dv 1) ai) ai (aN _)) aj))) aj))))
  (ao (bF (aU Gq eE (aZ (az (dv 4) ai) (az (dv 4) ai)) ai (aN _)) (au (aG (Bk (aU (jV hr.units) bA (az (dv 4) ai) ai (aN _)) (az (dv 4) ai) (az (dv 4) ai)))) aW)
  (au (aG (Bk (aU l7 eE (dv 2) (dv 3) (aN _)) (az (dv 4) ai) (az (dv 4) ai))))))),fun ds U Qd h=>Ce h⟩)
theorem AA:aE ["_law_x"] ["_law_x"] (aw gj):=bL
theorem AV(T:TX e):iy e:=by
 have S:=AA
 exact T.jj.f.okD S (fun ds U Q h=>GB h) (fun cdv A outer s H E hr=>⟨k6,(au (aG (aO (ae (cI ai (az (dv 0) ai)) (ae (cI ai (az (dv 0) ai)) (ae (az (dv 0) ai) aj)))))),fun ds U Qd h=>Ay h⟩)
theorem Dt:aE ["_law_met","_law_column","_law_row","_law_columns","_law_found"] ["_law_met","_law_column","_law_row","_law_columns"] (aw iG):=bL
theorem Dj(T:TX e):sj e:=by
 have S:=Dt
 exact T.wD.f.okD S (fun ds U Q h=>Hr h) (fun cdv A outer s H E hr=>⟨mH,(ao (bg (i:=4) S.nd ai)
  (ao (uB PassesOwn.never (DW.dt (xR (aU nS eE (ba (dv 1) (dv 4)) (dv 3) (aN _)) (sR (BQ hr.units (aO (ae (ba (dv 1) (dv 4)) (ae (dv 2) aj))) (dv 0) (by with_unfolding_all rfl))))) (au (bg (i:=4) S.nd (ba (dv 4) ai))))
  (au (aG (dv 4))))),fun ds U Qd h=>Ct h⟩)
theorem ur:aE ["a","b","c"] ["a","b","c"] (aw cZ):=bL
theorem uA(T:TX e)(eo:kr e):fZ e:=by
 have S:=ur
 exact T.gZ.f.okD S (fun ds U Q h=>HI h) (fun cdv A outer s H E hr=>⟨fU,(au (aG (ak eo hr T.gW (ae (ak eo hr T.gW (ae (dv 2) (ae (dv 0) aj))) (ae (dv 1) aj))))),fun ds U Qd h=>sV h⟩)
theorem Hn:aE ["d","x"] ["d","x"] (aw lF):=bL
theorem HH(T:TX e)(cL:hV e):rL e:=by
 have S:=Hn
 exact T.qi.f.okD S (fun ds U Q h=>x5 h) (fun cdv A outer s H E hr=>⟨rq,(au (aG (ak cL hr T.i5 (ae (dv 0) (ae (az (dv 1) ai) (ae (az (dv 1) ai) aj)))))),fun ds U Qd h=>Hs h⟩)
theorem Gr:aE ["d","x","y","a","b"] ["d","x","y"] (aw jP):=bL
theorem GK(T:TX e)(cL:hV e):vT e:=by
 have S:=Gr
 exact T.yn.f.okD S (fun ds U Q h=>Fs h) (fun cdv A outer s H E hr=>⟨oF,(ao (bg (i:=3) S.nd (cI (aZ (az (dv 1) ai) (az (dv 2) ai)) (aZ (az (dv 2) ai) (az (dv 1) ai))))
  (ao (bg (i:=4) S.nd (cI (aZ (az (dv 1) ai) (az (dv 2) ai)) (aZ (az (dv 2) ai) (az (dv 1) ai))))
  (au (aG (eI (cg hr.units) bA (ak cL hr T.i5 (ae (dv 0) (ae (dv 3) (ae (dv 4) aj)))) ai (aN _)))))),fun ds U Qd h=>EE h⟩)
theorem FU:aE ["thing","many"] ["thing","many"] (aw jW):=bL
theorem EC(T:TX e)(d7:pN e):oQ e:=by
 have S:=FU
 exact T.rC.f.okD S (fun ds U Q h=>EB h) (fun cdv A outer s H E hr=>⟨pP,(au (aG (mO (ak d7 hr T.jN (ae (dv 0) aj)) (mO (eI MX eE ai (dv 0) (aN _)) (rm (eI nS eE (dv 0) (dv 1) (aN _))))))),fun ds U Qd h=>FD h⟩)
theorem F5:aE ["_law_a","_law_b","_law_c","_law_common"] ["_law_a","_law_b","_law_c"] (aw jZ):=bL
theorem GH(T:TX e)(iB:oE e):dX e:=by
 have S:=F5
 exact T.dR.f.okD S (fun ds U Q h=>tR h) (fun cdv A outer s H E hr=>⟨pF,(ao (bg (i:=3) S.nd (aZ (ak iB hr T.kD (ae (ak iB hr T.kD (ae (dv 0) (ae (dv 1) aj))) (ae (dv 2) aj))) (az (fj (ae ai (ae (mE ai) aj))) (pf rfl T.BS (ae (eI nS eE (dv 2) ai (aN _)) aj)))))
  (au (aG (aO (ae (i4 (dv 0) (dv 3)) (ae (i4 (dv 1) (dv 3)) (ae (i4 (dv 2) (dv 3)) aj))))))),fun ds U Qd h=>FJ h⟩)
theorem D4:aE ["_law_bag_here","_law_some"] ["_law_bag_here"] (aw iD):=bL
theorem C8(T:TX e)(aB:bz e):uu e:=by
 have S:=D4
 have W0:=eW aB @cJ
 exact T.vR.f.okD S (fun ds U Q h=>Gg h) (fun cdv A outer s H E hr=>⟨nD,(ao (bF (aU (cg hr.units) bA (ak W0 hr T.aD (ae (dv 0) (ae ai aj))) ai (aN _)) (au (aG (az (fj (ae ai (ae ai (ae ai aj)))) (ak W0 hr T.aD (ae (dv 0) (ae ai aj)))))) aW)
  (ao (IS (i:=1) (N':=["_law_d"]) (cap:=[none]) S.nd rfl rfl rfl (CY rfl T.gH (ae ai (ae ai aj))) (fun _ _ _=>(bR 0)) (fun _ _ _=>(Fx (aU (K2 hr.units) RM (dv 0) (fj (ae ai (ae ai (ae ai (ae ai aj))))) (by with_unfolding_all rfl)))) (fun _ _ _=>(dv 0)))
  (au (aG (az (dv 1) (ak W0 hr T.aD (ae (dv 0) (ae ai aj)))))))),fun ds U Qd h=>DJ h⟩)
theorem u9:aE ["_law_bag_here","_law_a","_law_b","_law_found"] ["_law_bag_here"] (aw du):=bL
theorem vz(T:TX e)(aB:bz e):ip e:=by
 have S:=u9
 have W0:=eW aB @cJ
 exact T.i7.f.okD S (fun ds U Q h=>yQ h) (fun cdv A outer s H E hr=>⟨g9,(ao (dF (aO (ae (ba ai (ak W0 hr T.aD (ae (dv 0) (ae ai aj)))) (ae (ba ai (ak W0 hr T.aD (ae (dv 0) (ae ai aj)))) aj))) (bQ (n:=2) rfl (av (jk (i:=1) S.nd rfl (Or.inr rfl)) (av (aY (i:=2) S.nd) bE))))
  (ao (bg (i:=3) S.nd (fj (ae (aO (ae ai (ae ai (ae (ba (dv 1) ai) (ae ai aj))))) (ae (aO (ae (ba (dv 1) ai) (ae ai (ae ai (ae (ba (dv 2) ai) aj))))) (ae (aO (ae ai (ae (ba (dv 2) ai) (ae (ba (dv 1) ai) (ae ai aj))))) (ae (aO (ae ai (ae ai (ae ai (ae (ba (dv 2) ai) aj))))) (ae (aO (ae ai (ae ai (ae (dv 1) (ae (dv 2) aj))))) aj)))))))
  (ao (bF (aU (cg hr.units) bA (ak W0 hr T.aD (ae (dv 0) (ae ai aj))) ai (aN _)) (au (IS (i:=3) (N':=["_law_column","_law_row","_law_wide","_law_high","_law_a"]) (cap:=[none,none,none,none,some 1]) S.nd rfl rfl rfl (gu (dv 3)) (fun _ _ _=>(bQ (n:=4) rfl (av (bR 0) (av (bR 1) (av (bR 2) (av (bR 3) bE)))))) (fun _ _ _=>cD) (fun _ _ _=>(aO (ae (cI (cI (ba (dv 4) ai) (dv 0)) (dv 2)) (ae (dv 1) (ae (dv 2) (ae (dv 3) aj)))))))) aW)
  (au (aG (aO (ae (ba (dv 1) ai) (ae (ba (dv 2) ai) (ae (dv 3) aj))))))))),fun ds U Qd h=>u5 h⟩)
theorem Ax:aE ["_law_bag_here","_law_row","_law_rest"] ["_law_bag_here","_law_row"] (aw fY):=bL
theorem Az(T:TX e)(aB:bz e):kU e:=by
 have S:=Ax
 exact T.mY.f.okD S (fun ds U Q h=>DF h) (fun cdv A outer s H E hr=>⟨kN,(ao (D2 (i:=2) S.nd rfl (Or.inr rfl) (MO rfl T.Sj (ae (dv 1) aj)))
  (au (aG (Jw (N':=["_law_thing","_law_rest","_law_bag_here"]) (cap:=[none,some 2,some 0]) rfl (gu (dv 1)) (fun _ _ _=>(bR 0)) (fun _ _ _=>cD) (fun _ _ _=>(LV (dv 1) (ak (eW aB @cJ) hr T.aD (ae (dv 2) (ae (cG rfl T.dW (ae (dv 1) aj)) aj))))))))),fun ds U Qd h=>AN h⟩)
theorem rP:aE ["_law_bag_here","_law_draw"] ["_law_bag_here"] (aw cO):=bL
theorem rG(T:TX e)(aB:bz e):jS e:=by
 have S:=rP
 have W0:=eW aB @cJ
 exact T.kf.f.okD S (fun ds U Q h=>Gp h) (fun cdv A outer s H E hr=>⟨fk,(ao (bg (i:=1) S.nd (ak W0 hr T.aD (ae (dv 0) (ae ai aj))))
  (ao (bF (aU (cg hr.units) bA (dv 1) ai (aN _)) (au (aG (az (fj (ae (aO (ae ai (ae ai aj))) (ae (aO (ae ai (ae ai aj))) (ae (aO (ae ai (ae ai aj))) (ae (aO (ae ai (ae ai aj))) (ae (aO (ae ai (ae ai aj))) (ae (aO (ae ai (ae ai aj))) aj))))))) (ak W0 hr T.aD (ae (dv 0) (ae ai aj)))))) aW)
  (ao (bF (aU nS eE (dv 1) ai (aN _)) (au (aG (aO (ae (ba ai (ak W0 hr T.aD (ae (dv 0) (ae ai aj)))) (ae (ba ai (ak W0 hr T.aD (ae (dv 0) (ae ai aj)))) aj))))) aW)
  (au (aG (aO (ae (ba ai (ak W0 hr T.aD (ae (dv 0) (ae ai aj)))) (ae (ba ai (ak W0 hr T.aD (ae (dv 0) (ae ai aj)))) aj)))))))),fun ds U Qd h=>rB h⟩)
theorem zH:aE ["_law_bag_here","_law_columns","_law_rows","_law_met","_law_found","_law_most","_law_row","_law_column","_law_wide","_law_high","_law_k"] ["_law_bag_here","_law_columns","_law_rows"] (aw eR):=bL
theorem yb(T:TX e)(aB:bz e)(pI:sj e):jz e:=by
 have S:=zH
 exact Ot (T.lu.f.okD S (fun ds U Q h=>Au h) (fun cdv A outer s H E hr=>⟨jQ,(ao (bg (i:=3) S.nd JW)
  (ao (bg (i:=4) S.nd (mX aj))
  (ao (bg (i:=5) S.nd (az (fj (ae ai (ae ai (ae ai (ae ai aj))))) (ak aB hr T.aD (ae (dv 0) (ae ai aj)))))
  (ao (hJ PassesOwn.never rfl (kB rfl T.gH (ae (dv 2) aj)) (aY (i:=6) S.nd) (au (hJ PassesOwn.never rfl (kB rfl T.gH (ae (dv 1) aj)) (aY (i:=7) S.nd) (au (bF (BQ hr.units (aO (ae (dv 7) (ae (dv 6) aj))) (dv 3) (by with_unfolding_all rfl)) (ao (bg (i:=8) S.nd (ba ai (ak aB hr T.aD (ae (dv 0) (ae (Hm rfl rfl T.MT (ae (dv 5) (ae (ak pI hr T.wD (ae (dv 3) (ae (dv 7) (ae (dv 6) (ae (dv 1) aj))))) aj))) aj)))))
  (ao (bg (i:=9) S.nd (ba ai (ak aB hr T.aD (ae (dv 0) (ae (Hm rfl rfl T.MT (ae (dv 5) (ae (cI (dv 2) (dv 6)) aj))) aj)))))
  (ao (eu (mn (dv 4) (aO (ae (dv 7) (ae (dv 6) (ae (dv 8) (ae (dv 9) aj)))))))
  (au (hJ PassesOwn.never rfl (kB rfl T.gH (ae (aZ (dv 8) (dv 9)) aj)) (aY (i:=10) S.nd) (au (Ph hr.units (dv 3) (aO (ae (ba (dv 7) (lz (dv 10) (dv 8))) (ae (ba (dv 6) (i4 (dv 10) (dv 8))) aj))) kA))))))) aW)))))
  (au (aG (dv 4))))))),fun ds U Qd h=>yK h⟩)) (fun ds U Qd h=>w4 h)
theorem Cm:aE ["thing","a","b","c"] ["thing"] (aw iT):=bL
theorem Ex(T:TX e)(d7:pN e)(cu:fZ e):mR e:=by
 have S:=Cm
 exact T.ku.f.okD S (fun ds U Q h=>Hl h) (fun cdv A outer s H E hr=>⟨nJ,(ao (bF (DW.dt (lT (dU (cY (u6 (kit_tuple _) rfl T.aX rfl T.eX PyProof.Rows.Boot.«tuple» (dv 0)))) (nj (aU (jV hr.units) bA (cG rfl T.dW (ae (dv 0) aj)) ai (aN _))))) (au (aG kA)) aW)
  (ao (dF (dv 0) (bQ (n:=3) rfl (av (aY (i:=1) S.nd) (av (aY (i:=2) S.nd) (av (aY (i:=3) S.nd) bE)))))
  (ao (bF (DW.dt (lT (dU (cY (ak d7 hr T.jN (ae (dv 1) aj)))) (lT (dU (cY (ak d7 hr T.jN (ae (dv 2) aj)))) (nj (dU (cY (ak d7 hr T.jN (ae (dv 3) aj)))))))) (au (aG kA)) aW)
  (au (aG (mO (eI Gq eE (dv 3) ai (aN _)) (rm (eI (cg hr.units) bA (ak cu hr T.gZ (ae (dv 1) (ae (dv 2) (ae (dv 3) aj)))) ai (aN _))))))))),fun ds U Qd h=>Dw h⟩)
theorem J4:aE ["a","b","c","divisor"] ["a","b","c"] (aw oo):=bL
theorem KW(T:TX e)(cu:fZ e):pY e:=by
 have S:=J4
 exact T.uJ.f.okD S (fun ds U Q h=>tR h) (fun cdv A outer s H E hr=>⟨vH,(ao (bF (aU (cg hr.units) bA (dv 2) ai (aN _)) (au gb) aW)
  (ao (bg (i:=3) S.nd (ak cu hr T.gZ (ae (dv 0) (ae (dv 1) (ae (dv 2) aj)))))
  (ao (bF (aU nS eE (dv 2) ai (aN _)) (au (bg (i:=3) S.nd (mE (dv 3)))) aW)
  (au (aG (aO (ae (i4 (dv 0) (dv 3)) (ae (i4 (dv 1) (dv 3)) (ae (i4 (dv 2) (dv 3)) aj))))))))),fun ds U Qd h=>KY h⟩)
theorem yM:aE ["d","marks","x","low","high","middle"] ["d","marks","x"] (aw eP):=bL
theorem zi(T:TX e)(rY:vT e):pq e:=by
 have S:=yM
 exact T.qA.f.okD S (fun ds U Q h=>C3 h) (fun cdv A outer s H E hr=>⟨j0,(ao (bg (i:=3) S.nd ai)
  (ao (bg (i:=4) S.nd (cG rfl T.dW (ae (dv 1) aj)))
  (ao (uB PassesOwn.never (aU nS eE (dv 3) (dv 4) (aN _)) (ao (bg (i:=5) S.nd (i4 (ba (dv 3) (dv 4)) ai))
  (au (bF (cY (ak rY hr T.yn (ae (dv 0) (ae (dv 2) (ae (az (dv 1) (dv 5)) aj))))) (au (bg (i:=3) S.nd (ba (dv 5) ai))) (au (bg (i:=4) S.nd (dv 5)))))))
  (au (aG (dv 3)))))),fun ds U Qd h=>zh h⟩)
theorem As:aE ["_law_d","_law_x","_law_y"] ["_law_d","_law_x","_law_y"] (aw fK):=bL
theorem AO(T:TX e)(bq:dX e):ix e:=by
 have S:=As
 exact T.d8.f.okD S (fun ds U Q h=>wN h) (fun cdv A outer s H E hr=>⟨qW,(au (aG (ak bq hr T.dR (ae (ba (aZ (az (dv 1) ai) (az (dv 2) ai)) (aZ (aZ (dv 0) (az (dv 1) ai)) (az (dv 2) ai))) (ae (ba (aZ (az (dv 1) ai) (az (dv 2) ai)) (aZ (az (dv 1) ai) (az (dv 2) ai))) (ae (aZ (az (dv 1) ai) (az (dv 2) ai)) aj)))))),fun ds U Qd h=>AI h⟩)
theorem vd:aE ["_law_d","_law_x"] ["_law_d","_law_x"] (aw dy):=bL
theorem u0(T:TX e)(bq:dX e):gU e:=by
 have S:=vd
 exact T.iZ.f.okD S (fun ds U Q h=>o6 h) (fun cdv A outer s H E hr=>⟨gY,(au (aG (ak bq hr T.dR (ae (aZ (az (dv 1) ai) (az (dv 1) ai)) (ae (cI ai (aZ (az (dv 1) ai) (az (dv 1) ai))) (ae (cI (aZ (az (dv 1) ai) (az (dv 1) ai)) (aZ (aZ (dv 0) (az (dv 1) ai)) (az (dv 1) ai))) aj)))))),fun ds U Qd h=>vy h⟩)
theorem DC:aE ["_law_x","_law_y"] ["_law_x","_law_y"] (aw iE):=bL
theorem C0(T:TX e)(bq:dX e):ji e:=by
 have S:=DC
 exact T.iQ.f.okD S (fun ds U Q h=>zr h) (fun cdv A outer s H E hr=>⟨sG,(au (aG (ak bq hr T.dR (ae (ba (aZ (az (dv 0) ai) (az (dv 1) ai)) (aZ (az (dv 1) ai) (az (dv 0) ai))) (ae (ba (aZ (az (dv 0) ai) (az (dv 1) ai)) (aZ (az (dv 1) ai) (az (dv 0) ai))) (ae (aZ (az (dv 0) ai) (az (dv 1) ai)) aj)))))),fun ds U Qd h=>C7 h⟩)
theorem DV:aE ["_law_bag_here","_law_d","_law_way","_law_x","_law_sign_here"] ["_law_bag_here","_law_d","_law_way"] (aw iO):=bL
theorem Cp(T:TX e)(aB:bz e)(bq:dX e)(fH:mP e)(ck:iy e):sD e:=by
 have S:=DV
 have W0:=eW aB @cJ
 exact T.oj.f.okD S (fun ds U Q h=>E8 h) (fun cdv A outer s H E hr=>⟨nH,(ao (bF (aU (cg hr.units) bA (dv 2) ai (aN _)) (au (aG (aO (ae (ba ai (ak W0 hr T.aD (ae (dv 0) (ae ai aj)))) (ae ai (ae ai aj)))))) aW)
  (ao (bF (aU (cg hr.units) bA (dv 2) ai (aN _)) (au (aG (ak bq hr T.dR (ae (ba ai (ak W0 hr T.aD (ae (dv 0) (ae ai aj)))) (ae ai (ae (ba ai (ak W0 hr T.aD (ae (dv 0) (ae ai aj)))) aj)))))) aW)
  (ao (bg (i:=3) S.nd (ak bq hr T.dR (ae (cI (ak W0 hr T.aD (ae (dv 0) (ae ai aj))) ai) (ae (cI (ak W0 hr T.aD (ae (dv 0) (ae ai aj))) ai) (ae (ba ai (ak W0 hr T.aD (ae (dv 0) (ae ai aj)))) aj)))))
  (ao (bg (i:=4) S.nd (ak fH hr T.pj (ae (dv 1) (ae (dv 3) aj))))
  (ao (bF (aU (cg hr.units) bA (dv 4) ai (aN _)) (au (aG (aO (ae ai (ae ai (ae ai aj)))))) aW)
  (au (aG (Bk (aU l7 eE (dv 4) ai (aN _)) (dv 3) (ak ck hr T.jj (ae (dv 3) aj)))))))))),fun ds U Qd h=>Cf h⟩)
theorem zP:aE ["_law_bag_here","_law_wide","_law_a","_law_b","_law_c","_law_way"] ["_law_bag_here"] (aw eQ):=bL
theorem yV(T:TX e)(aB:bz e)(bq:dX e):o8 e:=by
 have S:=zP
 have W0:=eW aB @cJ
 exact T.qP.f.okD S (fun ds U Q h=>AQ h) (fun cdv A outer s H E hr=>⟨jF,(ao (bg (i:=1) S.nd (az (fj (ae ai (ae ai (ae ai (ae ai aj))))) (ak W0 hr T.aD (ae (dv 0) (ae ai aj)))))
  (ao (kF (i:=2) (j:=3) rfl S.nd rfl rfl ⋯ rfl rfl (ae (cI (ak W0 hr T.aD (ae (dv 0) (ae (dv 1) aj))) (i4 (dv 1) ai)) (ae (cI (ak W0 hr T.aD (ae (dv 0) (ae (dv 1) aj))) (i4 (dv 1) ai)) aj)) rfl)
  (ao (bg (i:=4) S.nd (ba ai (ak W0 hr T.aD (ae (dv 0) (ae (cI (dv 1) ai) aj)))))
  (ao (bg (i:=5) S.nd (ak W0 hr T.aD (ae (dv 0) (ae ai aj))))
  (au (aG (ak bq hr T.dR (ae (az (fj (ae (dv 2) (ae (dv 2) (ae (dv 2) (ae (dv 2) (ae (dv 2) (ae (dv 2) (ae (dv 2) (ae ai aj))))))))) (dv 5)) (ae (az (fj (ae (dv 3) (ae (dv 3) (ae (dv 3) (ae (dv 3) (ae (dv 3) (ae ai (ae ai (ae (dv 3) aj))))))))) (dv 5)) (ae (az (fj (ae (dv 4) (ae (dv 4) (ae ai (ae (dv 4) (ae ai (ae (dv 4) (ae ai (ae (dv 4) aj))))))))) (dv 5)) aj)))))))))),fun ds U Qd h=>yU h⟩)
theorem Om:aE ["x","y"] ["x","y"] (aw zS):=bL
theorem dP(T:TX e)(gJ:pY e):CN e:=by
 have S:=Om
 exact T.zL.f.okD S (fun ds U Q h=>zr h) (fun cdv A outer s H E hr=>⟨Es,(au (aG (ak gJ hr T.uJ (ae (ba (aZ (az (dv 0) ai) (az (dv 1) ai)) (aZ (az (dv 1) ai) (az (dv 0) ai))) (ae (ba (aZ (az (dv 0) ai) (az (dv 1) ai)) (aZ (az (dv 1) ai) (az (dv 0) ai))) (ae (aZ (az (dv 0) ai) (az (dv 1) ai)) aj)))))),fun ds U Qd h=>IW h⟩)
theorem L0:aE ["d","x","y"] ["d","x","y"] (aw uL):=bL
theorem aV(T:TX e)(gJ:pY e):tU e:=by
 have S:=L0
 exact T.tF.f.okD S (fun ds U Q h=>wN h) (fun cdv A outer s H E hr=>⟨yh,(au (aG (ak gJ hr T.uJ (ae (ba (aZ (az (dv 1) ai) (az (dv 2) ai)) (aZ (aZ (dv 0) (az (dv 1) ai)) (az (dv 2) ai))) (ae (ba (aZ (az (dv 1) ai) (az (dv 2) ai)) (aZ (az (dv 1) ai) (az (dv 2) ai))) (ae (aZ (az (dv 1) ai) (az (dv 2) ai)) aj)))))),fun ds U Qd h=>Gz h⟩)
theorem EY:aE ["d","x","norm"] ["d","x"] (aw jM):=bL
theorem bB(T:TX e)(gJ:pY e):wx e:=by
 have S:=EY
 exact T.Ab.f.okD S (fun ds U Q h=>o6 h) (fun cdv A outer s H E hr=>⟨oR,(ao (bg (i:=2) S.nd (cI (aZ (az (dv 1) ai) (az (dv 1) ai)) (aZ (aZ (dv 0) (az (dv 1) ai)) (az (dv 1) ai))))
  (au (aG (ak gJ hr T.uJ (ae (aZ (az (dv 1) ai) (az (dv 1) ai)) (ae (aZ (mE (az (dv 1) ai)) (az (dv 1) ai)) (ae (dv 2) aj))))))),fun ds U Qd h=>Ft h⟩)
theorem rO:aE ["d","thing"] ["d","thing"] (aw cS):=bL
theorem rX(T:TX e)(d6:mR e)(ij:rL e):dg e:=by
 have S:=rO
 exact T.b8.f.okD S (fun ds U Q h=>CT h) (fun cdv A outer s H E hr=>⟨ff,(au (aG (mO (ak d6 hr T.ku (ae (dv 1) aj)) (rm (eI (cg hr.units) bA (ak ij hr T.qi (ae (dv 0) (ae (dv 1) aj))) ai (aN _)))))),fun ds U Qd h=>rp h⟩)
theorem wX:aE ["d","found","marks","x","place"] ["d","found"] (aw dZ):=bL
theorem wZ(T:TX e)(kP:pq e):nZ e:=by
 have S:=wX
 exact HD (T.jy.f.okD S (fun ds U Q h=>Eb h) (fun cdv A outer s H E hr=>⟨jb,(ao (bg (i:=2) S.nd (mX aj))
  (ao (hJ PassesOwn.never rfl (gu (dv 1)) (aY (i:=3) S.nd) (ao (bg (i:=4) S.nd (ak kP hr T.qA (ae (dv 0) (ae (dv 2) (ae (dv 3) aj)))))
  (au (bF (DW.dt (lT (aU (cg hr.units) bA (dv 4) (cG rfl T.dW (ae (dv 2) aj)) (aN _)) (nj (aU (jV hr.units) bA (az (dv 2) (dv 4)) (dv 3) (aN _))))) (au (eu (KC (dv 2) (dv 4) (dv 3)))) aW))))
  (au (aG (dv 2))))),fun ds U Qd h=>w8 h⟩)) (fun ds U Qd h=>vI h)
theorem Ap:aE ["_law_d","_law_laying_here","_law_factor","_law_width","_law_height","_law_tiles","_law_grown_here"] ["_law_d","_law_laying_here","_law_factor"] (aw gM):=bL
theorem A7(T:TX e)(bM:ix e):iC e:=by
 have S:=Ap
 exact T.jh.f.okD S (fun ds U Q h=>Fg h) (fun cdv A outer s H E hr=>⟨kH,(ao (dF (dv 1) (bQ (n:=3) rfl (av (aY (i:=3) S.nd) (av (aY (i:=4) S.nd) (av (aY (i:=5) S.nd) bE)))))
  (ao (bg (i:=6) S.nd (iK rfl T.eX (ae (vP (N':=["_law_tile","_law_d","_law_factor"]) (cap:=[none,some 0,some 2]) rfl (kX (dv 5)) (fun _ _ _=>(bR 0)) (fun _ _ _=>cD) (fun _ _ _=>(iK rfl T.eX (ae (vP (N':=["_law_one","_law_d","_law_factor"]) (cap:=[none,some 1,some 2]) rfl (kX (dv 0)) (fun _ _ _=>(bR 0)) (fun _ _ _=>cD) (fun _ _ _=>(ak bM hr T.d8 (ae (dv 1) (ae (dv 0) (ae (dv 2) aj)))))) aj)))) aj)))
  (au (aG (aO (ae (ak bM hr T.d8 (ae (dv 0) (ae (dv 3) (ae (dv 2) aj)))) (ae (ak bM hr T.d8 (ae (dv 0) (ae (dv 4) (ae (dv 2) aj)))) (ae (dv 6) aj)))))))),fun ds U Qd h=>AJ h⟩)
theorem En:aE ["_law_d","_law_x","_law_y"] ["_law_d","_law_x","_law_y"] (aw iS):=bL
theorem DX(T:TX e)(bM:ix e)(cM:gU e):ua e:=by
 have S:=En
 exact T.vU.f.okD S (fun ds U Q h=>F7 h) (fun cdv A outer s H E hr=>⟨mI,(au (aG (ak bM hr T.d8 (ae (dv 0) (ae (dv 1) (ae (ak cM hr T.iZ (ae (dv 0) (ae (dv 2) aj))) aj)))))),fun ds U Qd h=>Dc h⟩)
theorem Ez:aE ["_law_sides_here","_law_found","_law_side_here"] ["_law_sides_here"] (aw iL):=bL
theorem Dv(T:TX e)(cm:ji e):su e:=by
 have S:=Ez
 exact HD (T.oN.f.okD S (fun ds U Q h=>E3 h) (fun cdv A outer s H E hr=>⟨mS,(ao (bg (i:=1) S.nd (mX (ae (aO (ae ai (ae ai (ae ai aj)))) aj)))
  (ao (hJ PassesOwn.never rfl (gu (dv 0)) (aY (i:=2) S.nd) (au (eu (mn (dv 1) (ak cm hr T.iQ (ae (az (dv 1) (mE ai)) (ae (dv 2) aj)))))))
  (au (aG (dv 1))))),fun ds U Qd h=>Cj h⟩)) (fun ds U Qd h=>AB h)
theorem Ai:aE ["_law_bag_here","_law_d","_law_many","_law_way"] ["_law_bag_here","_law_d","_law_many"] (aw gw):=bL
theorem Av(T:TX e)(aB:bz e)(kg:sD e):qx e:=by
 have S:=Ai
 have W0:=eW aB @cJ
 exact T.mV.f.okD S (fun ds U Q h=>F0 h) (fun cdv A outer s H E hr=>⟨kO,(ao (D2 (i:=3) S.nd rfl (Or.inr rfl) (ak W0 hr T.aD (ae (dv 0) (ae ai aj))))
  (ao (bF (aU (cg hr.units) bA (ak W0 hr T.aD (ae (dv 0) (ae ai aj))) ai (aN _)) (au (aG (R3 (fj (ae (ak kg hr T.oj (ae (dv 0) (ae (dv 1) (ae (dv 3) aj)))) aj)) (dv 2)))) aW)
  (au (aG (Jw (N':=["_law_k","_law_bag_here","_law_d","_law_way"]) (cap:=[none,some 0,some 1,some 3]) rfl (kB rfl T.gH (ae (dv 2) aj)) (fun _ _ _=>(bR 0)) (fun _ _ _=>cD) (fun _ _ _=>(ak kg hr T.oj (ae (dv 1) (ae (dv 2) (ae (dv 3) aj)))))))))),fun ds U Qd h=>A1 h⟩)
theorem D5:aE ["_law_x","_law_y"] ["_law_x","_law_y"] (aw iJ):=bL
theorem CV(T:TX e)(cm:ji e)(ck:iy e):mG e:=by
 have S:=D5
 exact T.iX.f.okD S (fun ds U Q h=>G5 h) (fun cdv A outer s H E hr=>⟨mD,(au (aG (ak cm hr T.iQ (ae (dv 0) (ae (ak ck hr T.jj (ae (dv 1) aj)) aj))))),fun ds U Qd h=>Ey h⟩)
theorem A5:aE ["_law_bag_here","_law_d","_law_x","_law_sign_here"] ["_law_bag_here","_law_d"] (aw fT):=bL
theorem Aj(T:TX e)(kE:o8 e)(fH:mP e)(aB:bz e)(ck:iy e):qB e:=by
 have S:=A5
 exact T.sC.f.okD S (fun ds U Q h=>CW h) (fun cdv A outer s H E hr=>⟨kS,(ao (bg (i:=2) S.nd (ak kE hr T.qP (ae (dv 0) aj)))
  (ao (bg (i:=3) S.nd (ak fH hr T.pj (ae (dv 1) (ae (dv 2) aj))))
  (ao (bF (aU (cg hr.units) bA (dv 3) ai (aN _)) (au (aG (aO (ae (ba ai (ak (eW aB @cJ) hr T.aD (ae (dv 0) (ae ai aj)))) (ae ai (ae ai aj)))))) aW)
  (au (aG (Bk (aU l7 eE (dv 3) ai (aN _)) (dv 2) (ak ck hr T.jj (ae (dv 2) aj)))))))),fun ds U Qd h=>AM h⟩)
theorem An:aE ["_law_bag_here","_law_d","_law_side_here","_law_many","_law_parts"] ["_law_bag_here","_law_d","_law_side_here","_law_many"] (aw fM):=bL
theorem Al(T:TX e)(aB:bz e)(bM:ix e)(bq:dX e):qK e:=by
 have S:=An
 exact T.nB.f.okD S (fun ds U Q h=>CC h) (fun cdv A outer s H E hr=>⟨kI,(ao (D2 (i:=4) S.nd rfl (Or.inr rfl) (Jw (N':=["_law_k","_law_bag_here"]) (cap:=[none,some 0]) rfl (kB rfl T.gH (ae (dv 3) aj)) (fun _ _ _=>(bR 0)) (fun _ _ _=>cD) (fun _ _ _=>(ba ai (ak (eW aB @cJ) hr T.aD (ae (dv 1) (ae ai aj)))))))
  (au (aG (vP (N':=["_law_k","_law_d","_law_side_here","_law_parts"]) (cap:=[none,some 1,some 2,some 4]) rfl (kB rfl T.gH (ae (ba (dv 3) ai) aj)) (fun _ _ _=>(bR 0)) (fun _ _ _=>cD) (fun _ _ _=>(ak bM hr T.d8 (ae (dv 1) (ae (dv 2) (ae (ak bq hr T.dR (ae (MB rfl rfl T.P6 (ae (lM (dv 3) pZ (p7 (dv 0))) aj)) (ae ai (ae (MB rfl rfl T.P6 (ae (dv 3) aj)) aj)))) aj))))))))),fun ds U Qd h=>AY h⟩)
theorem Oh:aE ["d","x","y"] ["d","x","y"] (aw zG):=bL
theorem O9(T:TX e)(iA:tU e)(rJ:wx e):B8 e:=by
 have S:=Oh
 exact T.vf.f.okD S (fun ds U Q h=>zQ h) (fun cdv A outer s H E hr=>⟨Ei,(ao (bF (aU (cg hr.units) bA (dv 2) (FT rfl T.FA) (aN _)) (au gb) aW)
  (au (aG (ak iA hr T.tF (ae (dv 0) (ae (dv 1) (ae (ak rJ hr T.Ab (ae (dv 0) (ae (dv 2) aj))) aj))))))),fun ds U Qd h=>O7 h⟩)
theorem l8:aE ["d","thing"] ["d","thing"] (aw bK):=bL
theorem mw(T:TX e)(bj:dg e):fz e:=by
 have S:=l8
 exact T.gL.f.okD S (fun ds U Q h=>xf h) (fun cdv A outer s H E hr=>⟨cW,(au (bF (dU (cY (ak bj hr T.b8 (ae (dv 0) (ae (dv 1) aj))))) (au gb) aW)),fun ds U Qd h=>lN h⟩)
theorem GU:aE ["d","thing","x","y","width","height"] ["d","thing"] (aw mB):=bL
theorem Hw(T:TX e)(d6:mR e)(ij:rL e)(bj:dg e):yF e:=by
 have S:=GU
 exact T.BN.f.okD S (fun ds U Q h=>Hb h) (fun cdv A outer s H E hr=>⟨rK,(ao (bF (DW.dt (lT (dU (cY (u6 (kit_tuple _) rfl T.aX rfl T.eX PyProof.Rows.Boot.«tuple» (dv 1)))) (nj (aU (jV hr.units) bA (cG rfl T.dW (ae (dv 1) aj)) ai (aN _))))) (au (aG kA)) aW)
  (ao (dF (dv 1) (bQ (n:=4) rfl (av (aY (i:=2) S.nd) (av (aY (i:=3) S.nd) (av (aY (i:=4) S.nd) (av (aY (i:=5) S.nd) bE))))))
  (ao (bF (DW.dt (lT (dU (cY (ak d6 hr T.ku (ae (dv 2) aj)))) (lT (dU (cY (ak d6 hr T.ku (ae (dv 3) aj)))) (lT (aU nS eE (ak ij hr T.qi (ae (dv 0) (ae (dv 2) aj))) ai (aN _)) (nj (aU nS eE (ak ij hr T.qi (ae (dv 0) (ae (dv 3) aj))) ai (aN _))))))) (au (aG kA)) aW)
  (au (aG (mO (ak bj hr T.b8 (ae (dv 0) (ae (dv 4) aj))) (rm (ak bj hr T.b8 (ae (dv 0) (ae (dv 5) aj)))))))))),fun ds U Qd h=>Hz h⟩)
theorem B7:aE ["tile","x","y","width","height"] ["tile"] (aw iR):=bL
theorem B9(T:TX e)(n9:CN e):sv e:=by
 have S:=B7
 exact T.vV.f.okD S (fun ds U Q h=>AW h) (fun cdv A outer s H E hr=>⟨nF,(ao (dF (dv 0) (bQ (n:=4) rfl (av (aY (i:=1) S.nd) (av (aY (i:=2) S.nd) (av (aY (i:=3) S.nd) (av (aY (i:=4) S.nd) bE))))))
  (au (aG (aO (ae (dv 1) (ae (ak n9 hr T.zL (ae (dv 1) (ae (dv 3) aj))) (ae (dv 2) (ae (ak n9 hr T.zL (ae (dv 2) (ae (dv 4) aj))) aj)))))))),fun ds U Qd h=>Ea h⟩)
theorem rA:aE ["d","tiles","factor"] ["d","tiles","factor"] (aw cQ):=bL
theorem rM(T:TX e)(iA:tU e):fo e:=by
 have S:=rA
 exact T.gn.f.okD S (fun ds U Q h=>ES h) (fun cdv A outer s H E hr=>⟨fg,(au (aG (iK rfl T.eX (ae (vP (N':=["tile","d","factor"]) (cap:=[none,some 0,some 2]) rfl (kX (dv 1)) (fun _ _ _=>(bR 0)) (fun _ _ _=>cD) (fun _ _ _=>(iK rfl T.eX (ae (vP (N':=["part","d","factor"]) (cap:=[none,some 1,some 2]) rfl (kX (dv 0)) (fun _ _ _=>(bR 0)) (fun _ _ _=>cD) (fun _ _ _=>(ak iA hr T.tF (ae (dv 1) (ae (dv 0) (ae (dv 2) aj)))))) aj)))) aj)))),fun ds U Qd h=>rj h⟩)
theorem Ho:aE ["tile","right","up","x","y","width","height"] ["tile","right","up"] (aw mr):=bL
theorem HG(T:TX e)(n9:CN e):x6 e:=by
 have S:=Ho
 exact T.BD.f.okD S (fun ds U Q h=>AS h) (fun cdv A outer s H E hr=>⟨rW,(ao (dF (dv 0) (bQ (n:=4) rfl (av (aY (i:=3) S.nd) (av (aY (i:=4) S.nd) (av (aY (i:=5) S.nd) (av (aY (i:=6) S.nd) bE))))))
  (au (aG (aO (ae (ak n9 hr T.zL (ae (dv 3) (ae (dv 1) aj))) (ae (ak n9 hr T.zL (ae (dv 4) (ae (dv 2) aj))) (ae (dv 5) (ae (dv 6) aj)))))))),fun ds U Qd h=>HE h⟩)
theorem ye:aE ["_law_d","_law_laying_here","_law_place","_law_other","_law_x","_law_y","_law_w","_law_h","_law_grown_here","_law_tiles"] ["_law_d","_law_laying_here","_law_place","_law_other"] (aw eK):=bL
theorem zd(T:TX e)(b9:iC e)(o9:ua e)(cm:ji e):pG e:=by
 have S:=ye
 exact T.qS.f.okD S (fun ds U Q h=>Ge h) (fun cdv A outer s H E hr=>⟨jA,(ao (dF (az (az (dv 1) ai) (dv 2)) (bQ (n:=4) rfl (av (jk (i:=4) S.nd rfl (Or.inr rfl)) (av (jk (i:=5) S.nd rfl (Or.inr rfl)) (av (aY (i:=6) S.nd) (av (aY (i:=7) S.nd) bE))))))
  (ao (bg (i:=8) S.nd (ak b9 hr T.jh (ae (dv 0) (ae (dv 3) (ae (ak o9 hr T.vU (ae (dv 0) (ae (dv 6) (ae (az (dv 3) ai) aj)))) aj)))))
  (ao (bg (i:=9) S.nd (iK rfl T.eX (ae (vP (N':=["_law_left","_law_low_here","_law_wide","_law_high","_law_x","_law_y"]) (cap:=[none,none,none,none,some 4,some 5]) rfl (kX (az (dv 8) ai)) (fun _ _ _=>(bQ (n:=4) rfl (av (bR 0) (av (bR 1) (av (bR 2) (av (bR 3) bE)))))) (fun _ _ _=>cD) (fun _ _ _=>(aO (ae (ak cm hr T.iQ (ae (dv 4) (ae (dv 0) aj))) (ae (ak cm hr T.iQ (ae (dv 5) (ae (dv 1) aj))) (ae (dv 2) (ae (dv 3) aj))))))) aj)))
  (au (aG (aO (ae (az (dv 1) ai) (ae (az (dv 1) ai) (ae (kb (kb (lM (az (dv 1) ai) pZ (p7 (dv 2))) (dv 9)) (lM (az (dv 1) ai) (p7 (kb (dv 2) ai)) pZ)) aj))))))))),fun ds U Qd h=>yH h⟩)
theorem A6:aE ["_law_bag_here","_law_d","_law_columns","_law_rows","_law_blocks_here","_law_xs","_law_ys","_law_tiles","_law_column","_law_row","_law_wide","_law_high","_law_width","_law_height"] ["_law_bag_here","_law_d","_law_columns","_law_rows","_law_blocks_here"] (aw gG):=bL
theorem Aw(T:TX e)(j7:su e)(jl:qx e)(d9:kU e)(df:mG e):qZ e:=by
 have S:=A6
 exact T.nG.f.okD S (fun ds U Q h=>CJ h) (fun cdv A outer s H E hr=>⟨kW,(ao (kF (i:=5) (j:=6) rfl S.nd rfl rfl ⋯ rfl rfl (ae (ak j7 hr T.oN (ae (ak jl hr T.mV (ae (dv 0) (ae (dv 1) (ae (dv 2) aj)))) aj)) (ae (ak j7 hr T.oN (ae (ak jl hr T.mV (ae (dv 0) (ae (dv 1) (ae (dv 3) aj)))) aj)) aj)) rfl)
  (ao (bg (i:=7) S.nd (mX aj))
  (ao (hJ PassesOwn.never rfl (gu (ak d9 hr T.mY (ae (dv 0) (ae (dv 4) aj)))) (bQ (n:=4) rfl (av (aY (i:=8) S.nd) (av (aY (i:=9) S.nd) (av (aY (i:=10) S.nd) (av (aY (i:=11) S.nd) bE))))) (ao (kF (i:=12) (j:=13) rfl S.nd rfl rfl ⋯ rfl rfl (ae (ak df hr T.iX (ae (az (dv 5) (ba (dv 8) (dv 10))) (ae (az (dv 5) (dv 8)) aj))) (ae (ak df hr T.iX (ae (az (dv 6) (ba (dv 9) (dv 11))) (ae (az (dv 6) (dv 9)) aj))) aj)) rfl)
  (au (eu (mn (dv 7) (aO (ae (az (dv 5) (dv 8)) (ae (az (dv 6) (dv 9)) (ae (dv 12) (ae (dv 13) aj))))))))))
  (au (aG (aO (ae (az (dv 5) (mE ai)) (ae (az (dv 6) (mE ai)) (ae (iK rfl T.eX (ae (dv 7) aj)) aj))))))))),fun ds U Qd h=>Aq h⟩)
theorem A4:aE ["_law_bag_here","_law_d","_law_wide","_law_high","_law_columns","_law_rows","_law_blocks_here","_law_xs","_law_ys","_law_tiles","_law_column","_law_row","_law_many","_law_tall","_law_width","_law_height","_law_factor"] ["_law_bag_here","_law_d","_law_wide","_law_high"] (aw fW):=bL
theorem AZ(T:TX e)(aB:bz e)(cK:ip e)(dz:jz e)(jf:qK e)(d9:kU e)(df:mG e)(b9:iC e):qL e:=by
 have S:=A4
 have W0:=eW aB @cJ
 exact T.uO.f.okD S (fun ds U Q h=>Fd h) (fun cdv A outer s H E hr=>⟨kQ,(ao (bF (aU (cg hr.units) bA (ak W0 hr T.aD (ae (dv 0) (ae ai aj))) ai (aN _)) (au (dF (ak cK hr T.i7 (ae (dv 0) aj)) (bQ (n:=3) rfl (av (aY (i:=4) S.nd) (av (aY (i:=5) S.nd) (av (aY (i:=6) S.nd) bE)))))) (ao (kF (i:=4) (j:=5) rfl S.nd rfl rfl ⋯ rfl rfl (ae (ba ai (ak W0 hr T.aD (ae (dv 0) (ae ai aj)))) (ae (ba ai (ak W0 hr T.aD (ae (dv 0) (ae ai aj)))) aj)) rfl)
  (au (bg (i:=6) S.nd (ak dz hr T.lu (ae (dv 0) (ae (dv 4) (ae (dv 5) aj))))))))
  (ao (kF (i:=7) (j:=8) rfl S.nd rfl rfl ⋯ rfl rfl (ae (ak jf hr T.nB (ae (dv 0) (ae (dv 1) (ae (dv 2) (ae (dv 4) aj))))) (ae (ak jf hr T.nB (ae (dv 0) (ae (dv 1) (ae (dv 3) (ae (dv 5) aj))))) aj)) rfl)
  (ao (bg (i:=9) S.nd (mX aj))
  (ao (hJ PassesOwn.never rfl (gu (ak d9 hr T.mY (ae (dv 0) (ae (dv 6) aj)))) (bQ (n:=4) rfl (av (aY (i:=10) S.nd) (av (aY (i:=11) S.nd) (av (aY (i:=12) S.nd) (av (aY (i:=13) S.nd) bE))))) (ao (kF (i:=14) (j:=15) rfl S.nd rfl rfl ⋯ rfl rfl (ae (ak df hr T.iX (ae (az (dv 7) (ba (dv 10) (dv 12))) (ae (az (dv 7) (dv 10)) aj))) (ae (ak df hr T.iX (ae (az (dv 8) (ba (dv 11) (dv 13))) (ae (az (dv 8) (dv 11)) aj))) aj)) rfl)
  (au (eu (mn (dv 9) (aO (ae (az (dv 7) (dv 10)) (ae (az (dv 8) (dv 11)) (ae (dv 14) (ae (dv 15) aj))))))))))
  (ao (bg (i:=16) S.nd (az (fj (ae (aO (ae ai (ae ai (ae ai aj)))) (ae (aO (ae ai (ae ai (ae ai aj)))) (ae (aO (ae ai (ae ai (ae ai aj)))) (ae (aO (ae ai (ae ai (ae ai aj)))) aj))))) (ak W0 hr T.aD (ae (dv 0) (ae ai aj)))))
  (au (aG (ak b9 hr T.jh (ae (dv 1) (ae (aO (ae (dv 2) (ae (dv 3) (ae (iK rfl T.eX (ae (dv 9) aj)) aj)))) (ae (dv 16) aj))))))))))),fun ds U Qd h=>AK h⟩)
theorem EM:aE ["d","thing","width","height","tiles"] ["d","thing"] (aw jB):=bL
theorem GN(T:TX e)(bj:dg e)(u4:yF e):vQ e:=by
 have S:=EM
 exact T.xI.f.okD S (fun ds U Q h=>Fv h) (fun cdv A outer s H E hr=>⟨pE,(ao (bF (DW.dt (lT (dU (cY (u6 (kit_tuple _) rfl T.aX rfl T.eX PyProof.Rows.Boot.«tuple» (dv 1)))) (nj (aU (jV hr.units) bA (cG rfl T.dW (ae (dv 1) aj)) ai (aN _))))) (au (aG kA)) aW)
  (ao (dF (dv 1) (bQ (n:=3) rfl (av (aY (i:=2) S.nd) (av (aY (i:=3) S.nd) (av (aY (i:=4) S.nd) bE)))))
  (ao (bF (DW.dt (lT (dU (cY (ak bj hr T.b8 (ae (dv 0) (ae (dv 2) aj))))) (nj (dU (cY (ak bj hr T.b8 (ae (dv 0) (ae (dv 3) aj)))))))) (au (aG kA)) aW)
  (ao (bF (DW.dt (lT (dU (cY (u6 (kit_tuple _) rfl T.aX rfl T.eX PyProof.Rows.Boot.«tuple» (dv 4)))) (lT (aU nS eE (cG rfl T.dW (ae (dv 4) aj)) ai (aN _)) (nj (aU l7 eE (cG rfl T.dW (ae (dv 4) aj)) (xp (u:=.int 60) rfl T.nC ⟨_,rfl⟩ (fun _ _ _=>Rp.int 60)) (aN _)))))) (au (aG kA)) aW)
  (au (aG (Sx rfl rfl T.TJ (ae (vP (N':=["tile","d"]) (cap:=[none,some 0]) rfl (kX (dv 4)) (fun _ _ _=>(bR 0)) (fun _ _ _=>cD) (fun _ _ _=>(ak u4 hr T.BN (ae (dv 1) (ae (dv 0) aj))))) aj)))))))),fun ds U Qd h=>EZ h⟩)
theorem zK:aE ["_law_bag_here","_law_d","_law_columns","_law_rows","_law_blocks_here"] ["_law_bag_here","_law_d"] (aw eL):=bL
theorem zO(T:TX e)(aB:bz e)(cK:ip e)(jm:qZ e)(gI:jS e)(dz:jz e):oW e:=by
 have S:=zK
 exact T.qG.f.okD S (fun ds U Q h=>AL h) (fun cdv A outer s H E hr=>⟨jI,(ao (bF (aU (cg hr.units) bA (ak (eW aB @cJ) hr T.aD (ae (dv 0) (ae ai aj))) ai (aN _)) (ao (dF (ak cK hr T.i7 (ae (dv 0) aj)) (bQ (n:=3) rfl (av (aY (i:=2) S.nd) (av (aY (i:=3) S.nd) (av (aY (i:=4) S.nd) bE)))))
  (au (aG (ak jm hr T.nG (ae (dv 0) (ae (dv 1) (ae (dv 2) (ae (dv 3) (ae (dv 4) aj))))))))) aW)
  (ao (dF (ak gI hr T.kf (ae (dv 0) aj)) (bQ (n:=2) rfl (av (aY (i:=2) S.nd) (av (aY (i:=3) S.nd) bE))))
  (au (aG (ak jm hr T.nG (ae (dv 0) (ae (dv 1) (ae (dv 2) (ae (dv 3) (ae (ak dz hr T.lu (ae (dv 0) (ae (dv 2) (ae (dv 3) aj)))) aj)))))))))),fun ds U Qd h=>yC h⟩)
theorem Et:aE ["d","thing","width","height","tiles","bounds","across","upward"] ["d","thing"] (aw iU):=bL
theorem Cn(T:TX e)(rh:vQ e)(pH:sv e)(gD:nZ e)(gi:nU e)(kT:oK e):uR e:=by
 have S:=Et
 exact T.vO.f.okD S (fun ds U Q h=>Ep h) (fun cdv A outer s H E hr=>⟨mZ,(ao (bF (dU (cY (ak rh hr T.xI (ae (dv 0) (ae (dv 1) aj))))) (au (aG kA)) aW)
  (ao (dF (dv 1) (bQ (n:=3) rfl (av (aY (i:=2) S.nd) (av (aY (i:=3) S.nd) (av (aY (i:=4) S.nd) bE)))))
  (ao (IS (i:=5) (N':=["tile"]) (cap:=[none]) S.nd rfl rfl rfl (kX (dv 4)) (fun _ _ _=>(bR 0)) (fun _ _ _=>cD) (fun _ _ _=>(ak pH hr T.vV (ae (dv 0) aj))))
  (ao (bg (i:=6) S.nd (ak gD hr T.jy (ae (dv 0) (ae (Qp (N':=["left","right","bottom","top","x"]) (cap:=[none,none,none,none,none]) rfl (gu (dv 5)) (fun _ _ _=>(bQ (n:=4) rfl (av (bR 0) (av (bR 1) (av (bR 2) (av (bR 3) bE)))))) (fun _ _ _=>(kX (aO (ae (dv 0) (ae (dv 1) aj))))) (fun _ _ _=>(bR 4)) (fun _ _ _=>(dv 4))) aj))))
  (ao (bg (i:=7) S.nd (ak gD hr T.jy (ae (dv 0) (ae (Qp (N':=["left","right","bottom","top","y"]) (cap:=[none,none,none,none,none]) rfl (gu (dv 5)) (fun _ _ _=>(bQ (n:=4) rfl (av (bR 0) (av (bR 1) (av (bR 2) (av (bR 3) bE)))))) (fun _ _ _=>(kX (aO (ae (dv 2) (ae (dv 3) aj))))) (fun _ _ _=>(bR 4)) (fun _ _ _=>(dv 4))) aj))))
  (au (aG (mO (ak gi hr T.jG (ae (dv 6) (ae (dv 2) aj))) (mO (ak gi hr T.jG (ae (dv 7) (ae (dv 3) aj))) (rm (ak kT hr T.qT (ae (dv 5) (ae (dv 6) (ae (dv 7) aj)))))))))))))),fun ds U Qd h=>CA h⟩)
theorem sI:aE ["d","thing"] ["d","thing"] (aw da):=bL
theorem tJ(T:TX e)(oD:uR e):dJ e:=by
 have S:=sI
 exact T.cw.f.okD S (fun ds U Q h=>AF h) (fun cdv A outer s H E hr=>⟨gA,(au (bF (dU (cY (ak oD hr T.vO (ae (dv 0) (ae (dv 1) aj))))) (au gb) aW)),fun ds U Qd h=>uw h⟩)
theorem D9:aE ["d","laying","factor","width","height","tiles"] ["d","laying","factor"] (aw iW):=bL
theorem Cc(T:TX e)(bp:dJ e)(dq:fz e)(iA:tU e)(bZ:fo e):uN e:=by
 have S:=D9
 exact T.oi.f.okD S (fun ds U Q h=>w6 h) (fun cdv A outer s H E hr=>⟨mU,(ao (eu (ak bp hr T.cw (ae (dv 0) (ae (dv 1) aj))))
  (ao (eu (ak dq hr T.gL (ae (dv 0) (ae (dv 2) aj))))
  (ao (dF (dv 1) (bQ (n:=3) rfl (av (aY (i:=3) S.nd) (av (aY (i:=4) S.nd) (av (aY (i:=5) S.nd) bE)))))
  (au (aG (aO (ae (ak iA hr T.tF (ae (dv 0) (ae (dv 3) (ae (dv 2) aj)))) (ae (ak iA hr T.tF (ae (dv 0) (ae (dv 4) (ae (dv 2) aj)))) (ae (ak bZ hr T.gn (ae (dv 0) (ae (dv 5) (ae (dv 2) aj)))) aj))))))))),fun ds U Qd h=>Cb h⟩)
theorem Bg:aE ["d","laying","place","other","tiles","x","y","width","height","smaller","inner"] ["d","laying","place","other"] (aw oq):=bL
theorem rV(T:TX e)(bp:dJ e)(gX:oQ e)(nL:B8 e):jU e:=by
 have S:=Bg
 exact T.jT.f.okX S (fun ds U Xk h=>Fm h) (fun cdv A outer s H E hr=>⟨eZ,(mf (eu (ak bp hr T.cw (ae (dv 0) (ae (dv 1) aj))))
  (mf (eu (ak bp hr T.cw (ae (dv 0) (ae (dv 3) aj))))
  (mf (bg (i:=4) S.nd (az (dv 1) ai))
  (mf (bF (dU (cY (ak gX hr T.rC (ae (dv 2) (ae (cG rfl T.dW (ae (dv 4) aj)) aj))))) (au gb) aW)
  (mf (dF (az (dv 4) (dv 2)) (bQ (n:=4) rfl (av (jk (i:=5) S.nd rfl (Or.inr rfl)) (av (jk (i:=6) S.nd rfl (Or.inr rfl)) (av (aY (i:=7) S.nd) (av (aY (i:=8) S.nd) bE))))))
  (mf (bF (aU (jV hr.units) bA (ak nL hr T.vf (ae (dv 0) (ae (dv 8) (ae (dv 7) aj)))) (ak nL hr T.vf (ae (dv 0) (ae (az (dv 3) ai) (ae (az (dv 3) ai) aj)))) (aN _)) (au gb) aW)
  (GG (Ug (aU l7 eE (kb (cI (cG rfl T.dW (ae (dv 4) aj)) ai) (cG rfl T.dW (ae (az (dv 3) ai) aj))) (xp (u:=.int 60) rfl T.nC ⟨_,rfl⟩ (fun _ _ _=>Rp.int 60)) (aN _)) (GG (Nd Oi rfl T.Bu T.ve)) Kv)))))))),fun ds U Xk h=>si h⟩)
theorem K9(T:TX e)(bp:dJ e)(gX:oQ e)(nL:B8 e)(bZ:fo e)(vw:x6 e):uU e:=by
 have S:=Bg
 exact T.jT.f.okD S (fun ds U Q h=>we h) (fun cdv A outer s H E hr=>⟨vF,(ao (eu (ak bp hr T.cw (ae (dv 0) (ae (dv 1) aj))))
  (ao (eu (ak bp hr T.cw (ae (dv 0) (ae (dv 3) aj))))
  (ao (bg (i:=4) S.nd (az (dv 1) ai))
  (ao (bF (dU (cY (ak gX hr T.rC (ae (dv 2) (ae (cG rfl T.dW (ae (dv 4) aj)) aj))))) (au gb) aW)
  (ao (dF (az (dv 4) (dv 2)) (bQ (n:=4) rfl (av (jk (i:=5) S.nd rfl (Or.inr rfl)) (av (jk (i:=6) S.nd rfl (Or.inr rfl)) (av (aY (i:=7) S.nd) (av (aY (i:=8) S.nd) bE))))))
  (ao (bF (aU (jV hr.units) bA (ak nL hr T.vf (ae (dv 0) (ae (dv 8) (ae (dv 7) aj)))) (ak nL hr T.vf (ae (dv 0) (ae (az (dv 3) ai) (ae (az (dv 3) ai) aj)))) (aN _)) (au gb) aW)
  (ao (bF (aU l7 eE (kb (cI (cG rfl T.dW (ae (dv 4) aj)) ai) (cG rfl T.dW (ae (az (dv 3) ai) aj))) (xp (u:=.int 60) rfl T.nC ⟨_,rfl⟩ (fun _ _ _=>Rp.int 60)) (aN _)) (au gb) aW)
  (ao (bg (i:=9) S.nd (ak bZ hr T.gn (ae (dv 0) (ae (az (dv 3) ai) (ae (ak nL hr T.vf (ae (dv 0) (ae (dv 7) (ae (az (dv 3) ai) aj)))) aj)))))
  (ao (bg (i:=10) S.nd (iK rfl T.eX (ae (vP (N':=["tile","x","y"]) (cap:=[none,some 5,some 6]) rfl (kX (dv 9)) (fun _ _ _=>(bR 0)) (fun _ _ _=>cD) (fun _ _ _=>(ak vw hr T.BD (ae (dv 0) (ae (dv 1) (ae (dv 2) aj)))))) aj)))
  (au (aG (aO (ae (az (dv 1) ai) (ae (az (dv 1) ai) (ae (kb (kb (lM (dv 4) pZ (p7 (dv 2))) (dv 10)) (lM (dv 4) (p7 (kb (dv 2) ai)) pZ)) aj))))))))))))))),fun ds U Qd h=>K4 h⟩)
theorem nP:aE ["_law_deed","e","_law_some","_law_names"] ["_law_deed"] (aw d0):=bL
theorem EA(T:TX e):wO e:=by
 have S:=nP
 exact Q8 (k:=9) T.gB.f nP rfl rfl rfl rfl T.Ed T.uV ⋯ ⋯ ⋯ (fun _=>rfl) (fun cdv A outer s H ea oe hc hr=>(ao (bg (i:=2) S.nd (fj (ae (aO (ae fq (ae (g0 (ea:=ea) (oe:=oe) T.bW (mem_cons_self) hc T.gS rfl T.aX rfl T.Mg (dv 1)) aj))) (ae (aO (ae fq (ae (g0 (ea:=ea) (oe:=oe) T.bW (mem_cons_self) hc T.fw rfl T.aX rfl T.GV (dv 1)) aj))) (ae (aO (ae fq (ae (g0 (ea:=ea) (oe:=oe) T.bW (mem_cons_self) hc T.fh rfl T.aX rfl T.Hj (dv 1)) aj))) (ae (aO (ae fq (ae (g0 (ea:=ea) (oe:=oe) T.bW (mem_cons_self) hc T.ik rfl T.aX rfl T.Nj (dv 1)) aj))) (ae (aO (ae fq (ae (g0 (ea:=ea) (oe:=oe) T.bW (mem_cons_self) hc T.ja rfl T.aX rfl T.PJ (dv 1)) aj))) (ae (aO (ae fq (ae (g0 (ea:=ea) (oe:=oe) T.bW (mem_cons_self) hc T.gz rfl T.aX rfl T.KR (dv 1)) aj))) (ae (aO (ae fq (ae (g0 (ea:=ea) (oe:=oe) T.bW (mem_cons_self) hc T.ir rfl T.aX rfl T.Mp (dv 1)) aj))) (ae (aO (ae fq (ae (g0 (ea:=ea) (oe:=oe) T.bW (mem_cons_self) hc T.gQ rfl T.aX rfl T.NF (dv 1)) aj))) (ae (aO (ae fq (ae (g0 (ea:=ea) (oe:=oe) T.bW (mem_cons_self) hc T.i9 rfl T.aX rfl T.Oj (dv 1)) aj))) (ae (aO (ae fq (ae (g0 (ea:=ea) (oe:=oe) T.bW (mem_cons_self) hc T.g8 rfl T.aX rfl T.Nu (dv 1)) aj))) (ae (aO (ae fq (ae (g0 (ea:=ea) (oe:=oe) T.bW (mem_cons_self) hc T.fu rfl T.aX rfl T.GX (dv 1)) aj))) (ae (aO (ae fq (ae (g0 (ea:=ea) (oe:=oe) T.bW (mem_cons_self) hc T.gR rfl T.aX rfl T.MY (dv 1)) aj))) (ae (aO (ae fq (ae (g0 (ea:=ea) (oe:=oe) T.bW (mem_cons_self) hc T.fO rfl T.aX rfl T.Bu (dv 1)) aj))) aj)))))))))))))))
  (ao (IS (i:=3) (N':=["_law_name","_law_is_so"]) (cap:=[none,none]) S.nd rfl rfl rfl (gu (dv 2)) (fun _ _ _=>(bQ (n:=2) rfl (av (bR 0) (av (bR 1) bE)))) (fun _ _ _=>(Fx (cY (dv 1)))) (fun _ _ _=>(dv 0)))
  (ao (bF (DW.dt (xR (aU (cg hr.units) bA (cG rfl T.dW (ae (dv 3) aj)) ai (aN _)) (sR (cY (PM (ea:=ea) (oe:=oe) (T:="ValueError") T.bW (mem_cons_self) hc T.pL rfl T.aX rfl T.Ci PyProof.Rows.Boot.«ValueError» (dv 1)))))) (au (aG (az (dv 3) ai))) aW)
  (au (aG fq)))))) (fun ea fa U Qd h=>lI h)
theorem zw:aE ["_law_d","_law_laying_here","_law_place","_law_other"] ["_law_d","_law_laying_here","_law_place","_law_other"] (aw eO):=bL
theorem yI(T:TX e)(rS:wO e)(fX:jU e)(lV:uU e)(kG:pG e):ph e:=by
 have S:=zw
 exact T.q5.f.U5 S (fun ds U Q h=>EU h) (fun cdv hcv A outer s H E hr=>⟨jH,(ao (bF (aU l7 eE (ba (cI (cG rfl T.dW (ae (az (dv 1) ai) aj)) ai) (cG rfl T.dW (ae (az (dv 3) ai) aj))) ai (aN _)) (au (aG (eI (cg hr.units) bA (Ku (N':=(["_law_d","_law_laying_here","_law_place","_law_other"]:List Str)) (cap:=[some 0,some 1,some 2,some 3]) rS (hr.mono ⋯) rfl T.gB.m T.gB.k T.gB.b T.Ak (hcv.symm.trans T.yp) rfl ⋯ (fun A' outer' s' H' fa c1 E hrL=>(O0 fX (hrL.mono ⋯) rfl T.jT.m T.jT.k T.jT.b NZ (ae (dv 0) (ae (dv 1) (ae (dv 2) (ae (dv 3) aj)))))) rfl rfl (fun _ _ _=>rfl) rfl rfl rfl nofun (by walk_at "cl") (Lj rfl) rfl (JJ ⟨Ia,⟨Ia,⟨Ia,⟨Ia,trivial⟩⟩⟩⟩)) fq (aN _)))) aW)
  (au (aG (eI (cg hr.units) bA (ak lV hr T.jT (ae (dv 0) (ae (dv 1) (ae (dv 2) (ae (dv 3) aj))))) (ak kG hr T.qS (ae (dv 0) (ae (dv 1) (ae (dv 2) (ae (dv 3) aj))))) (aN _))))),fun ds U Qd h=>xF h⟩)
theorem Ra:aE ["_law_script","_law_k","_law_bag_here","_law_d","_law_laying_here","_law_factor","_law_grown_here","_law_some","_law_turn","_law_place","_law_other","_law_x","_law_y","_law_w","_law_h","_law_alone"] ["_law_script"] (aw uK):=bL
theorem RC(T:TX e)(rg:wH e)(oV:uu e)(kK:oW e)(mW:qB e)(kC:uN e)(b9:iC e)(cM:gU e)(aB:bz e)(mT:qL e)(k9:ph e)(lV:uU e):NJ e:=by
 have S:=Ra
 exact T.Tx.f.okD S (fun ds U Q h=>Kg h) (fun cdv A outer s H E hr=>⟨Hv,(ao (hJ PassesOwn.never rfl (kB rfl T.gH (ae (Sn rfl rfl T.TV (ae ai (ae (Hm rfl rfl T.MT (ae ai (ae (cG rfl T.dW (ae (dv 0) aj)) aj))) aj))) aj)) (aY (i:=1) S.nd) (ao (bg (i:=2) S.nd (ak rg hr T.zq (ae (dv 0) (ae (dv 1) aj))))
  (ao (bg (i:=3) S.nd (ak oV hr T.vR (ae (dv 2) aj)))
  (ao (bg (i:=4) S.nd (ak kK hr T.qG (ae (dv 2) (ae (dv 3) aj))))
  (ao (bg (i:=5) S.nd (ak mW hr T.sC (ae (dv 2) (ae (dv 3) aj))))
  (ao (bg (i:=6) S.nd (ak kC hr T.oi (ae (dv 3) (ae (dv 4) (ae (dv 5) aj)))))
  (ao (bF (DW.dt (lT (aU (jV hr.units) bA (dv 6) (ak b9 hr T.jh (ae (dv 3) (ae (dv 4) (ae (dv 5) aj)))) (aN _)) (nj (aU (jV hr.units) bA (ak kC hr T.oi (ae (dv 3) (ae (dv 6) (ae (ak cM hr T.iZ (ae (dv 3) (ae (dv 5) aj))) aj)))) (dv 4) (aN _))))) (au (aG kA)) aW)
  (ao (bg (i:=7) S.nd (mX aj))
  (ao (hJ PassesOwn.never rfl (kB rfl T.gH (ae ai aj)) (aY (i:=8) S.nd) (ao (bg (i:=9) S.nd (ak (eW aB @cJ) hr T.aD (ae (dv 2) (ae (cG rfl T.dW (ae (az (dv 4) ai) aj)) aj))))
  (au (eu (mn (dv 7) (aO (ae (dv 9) (ae (ak mT hr T.uO (ae (dv 2) (ae (dv 3) (ae (az (az (az (dv 4) ai) (dv 9)) ai) (ae (az (az (az (dv 4) ai) (dv 9)) ai) aj))))) aj))))))))
  (au (hJ PassesOwn.never rfl (gu (Rx (dv 7) (lM (dv 7) pZ (p7 ai)))) (bQ (n:=2) rfl (av (aY (i:=9) S.nd) (av (aY (i:=10) S.nd) bE))) (ao (bF (dU (cY (ak k9 hr T.q5 (ae (dv 3) (ae (dv 4) (ae (dv 9) (ae (dv 10) aj))))))) (au (aG kA)) aW)
  (ao (dF (az (az (dv 4) ai) (dv 9)) (bQ (n:=4) rfl (av (aY (i:=11) S.nd) (av (aY (i:=12) S.nd) (av (aY (i:=13) S.nd) (av (aY (i:=14) S.nd) bE))))))
  (ao (bg (i:=15) S.nd (aO (ae (dv 13) (ae (dv 14) (ae (aO (ae (aO (ae (aO (ae ai (ae ai (ae ai aj)))) (ae (aO (ae ai (ae ai (ae ai aj)))) (ae (dv 13) (ae (dv 14) aj))))) aj)) aj)))))
  (au (bF (aU (jV hr.units) bA (ak lV hr T.jT (ae (dv 3) (ae (dv 4) (ae (dv 9) (ae (dv 15) aj))))) (dv 4) (aN _)) (au (aG kA)) aW))))))))))))))))
  (au (aG kA))),fun ds U Qd h=>Rc h⟩)
theorem QY(T:TX e):NJ e:=by
 have d7:=Gb T
 have eo:=sS T
 have cL:=uX T
 have gi:=xc T
 have kT:=zF T
 have iB:=yW T
 have rg:=FF T
 have aB:=C2 T
 have fH:=Di T
 have ck:=AV T
 have pI:=Dj T
 have cu:=uA T eo
 have ij:=HH T cL
 have rY:=GK T cL
 have gX:=EC T d7
 have bq:=GH T iB
 have oV:=C8 T aB
 have cK:=vz T aB
 have d9:=Az T aB
 have gI:=rG T aB
 have dz:=yb T aB pI
 have d6:=Ex T d7 cu
 have gJ:=KW T cu
 have kP:=zi T rY
 have bM:=AO T bq
 have cM:=u0 T bq
 have cm:=C0 T bq
 have kg:=Cp T aB bq fH ck
 have kE:=yV T aB bq
 have n9:=dP T gJ
 have iA:=aV T gJ
 have rJ:=bB T gJ
 have bj:=rX T d6 ij
 have gD:=wZ T kP
 have b9:=A7 T bM
 have o9:=DX T bM cM
 have j7:=Dv T cm
 have jl:=Av T aB kg
 have df:=CV T cm ck
 have mW:=Aj T kE fH aB ck
 have jf:=Al T aB bM bq
 have nL:=O9 T iA rJ
 have dq:=mw T bj
 have u4:=Hw T d6 ij bj
 have pH:=B9 T n9
 have bZ:=rM T iA
 have vw:=HG T n9
 have kG:=zd T b9 o9 cm
 have jm:=Aw T j7 jl d9 df
 have mT:=AZ T aB cK dz jf d9 df b9
 have rh:=GN T bj u4
 have kK:=zO T aB cK jm gI dz
 have oD:=Cn T rh pH gD gi kT
 have bp:=tJ T oD
 have kC:=Cc T bp dq iA bZ
 have fX:=rV T bp gX nL
 have lV:=K9 T bp gX nL bZ vw
 have rS:=EA T
 have k9:=yI T rS fX lV kG
 exact RC T rg oV kK mW kC b9 cM aB mT k9 lV
end
theorem aS{K:PySem.W.Frag}{h:Heap}{mg:Str->Option Value}{n m:Str}{st:Stmt}{f c:Addr}{t:Tok}{ps:List Str}(X:K.In h)(G:h.Ns mainGlobals mg)(a:FQ K n st f c t m)
  (b:∀(kV doc pm:Value) (an:Option Addr) (cdv ct:Value) (us:List Value),us.length=ps.length->bindArgs (fnOf n n (je st) (dH st) (aw st) .none kV doc pm an cdv ct) ⟨us,[]⟩=pure (ps.zip us)):Cal K mg n ps st f (fd n st t m c):=
 have F:=QN (st:=st) a.2.1 a.2.2.1 a.2.2.2
 ⟨F,mg_of X G a.1,a.2.2.2,F.binds b⟩
theorem all_mk{l:PySem.W.OpenLaw}{w:World}{K:PySem.W.Frag}{h:Heap}{mg:Str->Option Value}{fa:Addr}(X:K.In h)(G:h.Ns mainGlobals mg)(hfa:mg "law"=some (.ref fa))
  {f0 c0 f1 c1 f2 c2 f3 c3 f4 c4 f5 c5 f6 c6 f7 c7 f8 c8 f9 c9 f10 c10 f11 c11 f12 c12 f13 c13 f14 c14 f15 c15 f16 c16 f17 c17 f18 c18 f19 c19 f20 c20 f21 c21 f22 c22 f23 c23 f24 c24 f25 c25 f26 c26 f27 c27 f28 c28 f29 c29 f30 c30 f31 c31 f32 c32 f33 c33 f34 c34 f35 c35 f36 c36 f37 c37 f38 c38 f39 c39 f40 c40 f41 c41 f42 c42 f43 c43 f44 c44 f45 c45 f46 c46 f47 c47 f48 c48 f49 c49 f50 c50 f51 c51 f52 c52 f53 c53 f54 c54 f55 c55 f56 c56 f57 c57 f58 c58:Addr} {t0 t1 t2 t3 t4 t5 t6 t7 t8 t9 t10 t11 t12 t13 t14 t15 t16 t17 t18 t19 t20 t21 t22 t23 t24 t25 t26 t27 t28 t29 t30 t31 t32 t33 t34 t35 t36 t37 t38 t39 t40 t41 t42 t43 t44 t45 t46 t47 t48 t49 t50 t51 t52 t53 t54 t55 t56 t57 t58:Tok} {m0 m1 m2 m3 m4 m5 m6 m7 m8 m9 m10 m11 m12 m13 m14 m15 m16 m17 m18 m19 m20 m21 m22 m23 m24 m25 m26 m27 m28 m29 m30 m31 m32 m33 m34 m35 m36 m37 m38 m39 m40 m41 m42 m43 m44 m45 m46 m47 m48 m49 m50 m51 m52 m53 m54 m55 m56 m57 m58:Str} {q0:Tok} {g1:Addr} {go1:Option Addr} {q1a q1b q1c:Tok} {gn1:Nat} {gs1:Array (Option Value)} {dA:Addr} {ju:Addr} {fD:Addr} {fE:Addr} {jo:Addr} {lG:Addr} {ib:Addr} {jq:Addr} {jt:Addr} {lJ:Addr} {jr:Addr} {fF:Addr} {jn:Addr} {aA:Addr} {bm:Addr} {bsl:Array (Option Value)} {cX eT:Addr}
  (a0:FQ K "is_whole" jX f0 c0 t0 m0)
  (a1:FQ K "common_divisor" de f1 c1 t1 m1)
  (a2:FQ K "is_number" iT f2 c2 t2 m2)
  (a3:FQ K "divisor_of_all" cZ f3 c3 t3 m3)
  (a4:FQ K "number" oo f4 c4 t4 m4)
  (a5:FQ K "plus" zS f5 c5 t5 m5)
  (a6:FQ K "times" uL f6 c6 t6 m6)
  (a7:FQ K "over" zG f7 c7 t7 m7)
  (a8:FQ K "contrary" jM f8 c8 t8 m8)
  (a9:FQ K "sign_of" lF f9 c9 t9 m9)
  (a10:FQ K "sign_of_parts" dw f10 c10 t10 m10)
  (a11:FQ K "is_above" jP f11 c11 t11 m11)
  (a12:FQ K "is_above_nought" cS f12 c12 t12 m12)
  (a13:FQ K "must_be_above_nought" bK f13 c13 t13 m13)
  (a14:FQ K "is_tile" mB f14 c14 t14 m14)
  (a15:FQ K "has_form" jB f15 c15 t15 m15)
  (a16:FQ K "bounds_of" iR f16 c16 t16 m16)
  (a17:FQ K "place_among" eP f17 c17 t17 m17)
  (a18:FQ K "rising_marks" dZ f18 c18 t18 m18)
  (a19:FQ K "reaches_just" dY f19 c19 t19 m19)
  (a20:FQ K "covers_once" eJ f20 c20 t20 m20)
  (a21:FQ K "is_laying" iU f21 c21 t21 m21)
  (a22:FQ K "must_be_laying" da f22 c22 t22 m22)
  (a23:FQ K "stretched" iW f23 c23 t23 m23)
  (a24:FQ K "stretched_tiles" cQ f24 c24 t24 m24)
  (a25:FQ K "shifted" mr f25 c25 t25 m25)
  (a26:FQ K "is_place" jW f26 c26 t26 m26)
  (a27:FQ K "put_in" oq f27 c27 t27 m27)
  (a28:FQ K "_law_refusal" d0 f28 c28 t28 m28)
  (a29:FQ K "_law_put_by" eK f29 c29 t29 m29)
  (a30:FQ K "_law_grown" gM f30 c30 t30 m30)
  (a31:FQ K "_law_times" fK f31 c31 t31 m31)
  (a32:FQ K "_law_low" jZ f32 c32 t32 m32)
  (a33:FQ K "_law_shared" eM f33 c33 t33 m33)
  (a34:FQ K "_law_over" iS f34 c34 t34 m34)
  (a35:FQ K "_law_contrary" dy f35 c35 t35 m35)
  (a36:FQ K "_law_plus" iE f36 c36 t36 m36)
  (a37:FQ K "_law_bag" jK f37 c37 t37 m37)
  (a38:FQ K "_law_root" iD f38 c38 t38 m38)
  (a39:FQ K "_law_take" iH f39 c39 t39 m39)
  (a40:FQ K "_law_laying" eL f40 c40 t40 m40)
  (a41:FQ K "_law_pinwheel" du f41 c41 t41 m41)
  (a42:FQ K "_law_floor" gG f42 c42 t42 m42)
  (a43:FQ K "_law_ends" iL f43 c43 t43 m43)
  (a44:FQ K "_law_sides" gw f44 c44 t44 m44)
  (a45:FQ K "_law_side" iO f45 c45 t45 m45)
  (a46:FQ K "_law_sign" iP f46 c46 t46 m46)
  (a47:FQ K "_law_minus" gj f47 c47 t47 m47)
  (a48:FQ K "_law_mixed" fY f48 c48 t48 m48)
  (a49:FQ K "_law_less" iJ f49 c49 t49 m49)
  (a50:FQ K "_law_many_cells" cO f50 c50 t50 m50)
  (a51:FQ K "_law_blocks" eR f51 c51 t51 m51)
  (a52:FQ K "_law_room" iG f52 c52 t52 m52)
  (a53:FQ K "_law_above" fT f53 c53 t53 m53)
  (a54:FQ K "_law_number" eQ f54 c54 t54 m54)
  (a55:FQ K "_law_inner" fW f55 c55 t55 m55)
  (a56:FQ K "_law_marks" fM f56 c56 t56 m56)
  (a57:FQ K "_law_is_put" eO f57 c57 t57 m57)
  (a58:FQ K "law" uK f58 c58 t58 m58)
  (z0:nsIn K mainGlobals "isinstance"=some none)
  (z1:nsIn K mainGlobals "int"=some none)
  (z2:nsIn K mainGlobals "bool"=some none)
  (z3:nsIn K mainGlobals "abs"=some none)
  (z4:nsIn K mainGlobals "tuple"=some none)
  (z5:nsIn K mainGlobals "len"=some none)
  (z6:nsIn K mainGlobals "all"=some none)
  (z7:nsIn K mainGlobals "set"=some none)
  (z8:nsIn K mainGlobals "range"=some none)
  (z9:nsIn K mainGlobals "enumerate"=some none)
  (z10:nsIn K mainGlobals "ValueError"=some none)
  (z11:nsIn K mainGlobals "list"=some none)
  (z12:nsIn K mainGlobals "min"=some none)
  (z13:nsIn K mainGlobals "sum"=some none)
  (z14:nsIn K mainGlobals "max"=some none)
  (v0:nsIn K mainGlobals "MOST_TILES"=some (some (.int 60 q0)))
  (v1:nsIn K mainGlobals "NOUGHT"=some (some (.ref g1))) (w1:K.lookup g1=some ⟨.type "tuple",go1,.seq #[.int 0 q1a,.int 0 q1b,.int 1 q1c] gn1,gs1⟩)
  (y0:nsIn K mainGlobals "FloorError"=some (some (.ref dA)))
  (y1:nsIn K mainGlobals "NoRoot"=some (some (.ref ju)))
  (y2:nsIn K mainGlobals "NoNumber"=some (some (.ref fD)))
  (y3:nsIn K mainGlobals "NoLaying"=some (some (.ref fE)))
  (y4:nsIn K mainGlobals "NoTile"=some (some (.ref jo)))
  (y5:nsIn K mainGlobals "NoFit"=some (some (.ref lG)))
  (y6:nsIn K mainGlobals "NoKinds"=some (some (.ref ib)))
  (y7:nsIn K mainGlobals "NoPlan"=some (some (.ref jq)))
  (y8:nsIn K mainGlobals "NoSpot"=some (some (.ref jt)))
  (y9:nsIn K mainGlobals "NoNet"=some (some (.ref lJ)))
  (y10:nsIn K mainGlobals "NoText"=some (some (.ref jr)))
  (y11:nsIn K mainGlobals "NoSaying"=some (some (.ref fF)))
  (y12:nsIn K mainGlobals "NoName"=some (some (.ref jn)))
  (y13:nsIn K mainGlobals "TooMany"=some (some (.ref aA)))
  (ve:excIn K (aA) bmV "ValueError.__new__"=true)
  (uV:exmOne K (.ref aA) (.ref dA)=some true)
  (z1_TooMany:findIn K (.ref aA) "__getattribute__"=some (some (.builtin "BaseException.__getattribute__")))
  (z2_TooMany:findIn K (.ref aA) "__getattr__"=some none)
  (z3_TooMany:findIn K (.ref aA) "__class__"=some (some (.builtin "object.__class__")))
  (z4_TooMany:mroIn K aA (.type "object")=some true)
  (z5_TooMany:mroIn K aA (.type "BaseException")=some true)
  (z6_TooMany:(clsIn K aA).isSome=true)
  (gS:kitOne K (.ref aA) (.ref ju)=some false)
  (fw:kitOne K (.ref aA) (.ref fD)=some false)
  (fh:kitOne K (.ref aA) (.ref fE)=some false)
  (ik:kitOne K (.ref aA) (.ref jo)=some false)
  (ja:kitOne K (.ref aA) (.ref lG)=some false)
  (gz:kitOne K (.ref aA) (.ref ib)=some false)
  (ir:kitOne K (.ref aA) (.ref jq)=some false)
  (gQ:kitOne K (.ref aA) (.ref jt)=some false)
  (i9:kitOne K (.ref aA) (.ref lJ)=some false)
  (g8:kitOne K (.ref aA) (.ref jr)=some false)
  (fu:kitOne K (.ref aA) (.ref fF)=some false)
  (gR:kitOne K (.ref aA) (.ref jn)=some false)
  (fO:kitOne K (.ref aA) (.ref aA)=some true)
  (pL:kitOne K (.ref aA) (.type "ValueError")=some true)
  (bb1:nsIn K mainGlobals "__builtins__"=some (some (.ref bm))) (bb2:bm≠builtinsNs) (bb3:K.lookup bm=some ⟨.type "module",some builtinsNs,.plain,bsl⟩)
  (lo__law_is_put:(K.lookup cX).bind bJ=some (eT,("_law_is_put":Str))) (l1__law_is_put:∀c2 o2 q2,K.lookup c2=some o2->bJ o2=some (eT,q2)->q2 = "_law_is_put") (lc__law_is_put:c57=cX) :
  ∃fd:FuncData,(∀(s:Shared) (v:Value),BindsTo s fd ⟨[v],[]⟩ [("_law_script",v)])/\∀base:Heap,K.In base->base.Ns mainGlobals mg->iY l.prog w K mg base CX0 13 fa fd ["_law_script"] (spD K xH):=by
 have e:=hfa.symm.trans (mg_of X G a58.1)
 cases e
 have T:Txt K mg ⟨f0,fd "is_whole" jX t0 m0 c0,f1,fd "common_divisor" de t1 m1 c1,f2,fd "is_number" iT t2 m2 c2,f3,fd "divisor_of_all" cZ t3 m3 c3,f4,fd "number" oo t4 m4 c4,f5,fd "plus" zS t5 m5 c5,f6,fd "times" uL t6 m6 c6,f7,fd "over" zG t7 m7 c7,f8,fd "contrary" jM t8 m8 c8,f9,fd "sign_of" lF t9 m9 c9,f10,fd "sign_of_parts" dw t10 m10 c10,f11,fd "is_above" jP t11 m11 c11,f12,fd "is_above_nought" cS t12 m12 c12,f13,fd "must_be_above_nought" bK t13 m13 c13,f14,fd "is_tile" mB t14 m14 c14,f15,fd "has_form" jB t15 m15 c15,f16,fd "bounds_of" iR t16 m16 c16,f17,fd "place_among" eP t17 m17 c17,f18,fd "rising_marks" dZ t18 m18 c18,f19,fd "reaches_just" dY t19 m19 c19,f20,fd "covers_once" eJ t20 m20 c20,f21,fd "is_laying" iU t21 m21 c21,f22,fd "must_be_laying" da t22 m22 c22,f23,fd "stretched" iW t23 m23 c23,f24,fd "stretched_tiles" cQ t24 m24 c24,f25,fd "shifted" mr t25 m25 c25,f26,fd "is_place" jW t26 m26 c26,f27,fd "put_in" oq t27 m27 c27,f28,fd "_law_refusal" d0 t28 m28 c28,f29,fd "_law_put_by" eK t29 m29 c29,f30,fd "_law_grown" gM t30 m30 c30,f31,fd "_law_times" fK t31 m31 c31,f32,fd "_law_low" jZ t32 m32 c32,f33,fd "_law_shared" eM t33 m33 c33,f34,fd "_law_over" iS t34 m34 c34,f35,fd "_law_contrary" dy t35 m35 c35,f36,fd "_law_plus" iE t36 m36 c36,f37,fd "_law_bag" jK t37 m37 c37,f38,fd "_law_root" iD t38 m38 c38,f39,fd "_law_take" iH t39 m39 c39,f40,fd "_law_laying" eL t40 m40 c40,f41,fd "_law_pinwheel" du t41 m41 c41,f42,fd "_law_floor" gG t42 m42 c42,f43,fd "_law_ends" iL t43 m43 c43,f44,fd "_law_sides" gw t44 m44 c44,f45,fd "_law_side" iO t45 m45 c45,f46,fd "_law_sign" iP t46 m46 c46,f47,fd "_law_minus" gj t47 m47 c47,f48,fd "_law_mixed" fY t48 m48 c48,f49,fd "_law_less" iJ t49 m49 c49,f50,fd "_law_many_cells" cO t50 m50 c50,f51,fd "_law_blocks" eR t51 m51 c51,f52,fd "_law_room" iG t52 m52 c52,f53,fd "_law_above" fT t53 m53 c53,f54,fd "_law_number" eQ t54 m54 c54,f55,fd "_law_inner" fW t55 m55 c55,f56,fd "_law_marks" fM t56 m56 c56,f57,fd "_law_is_put" eO t57 m57 c57,fa,fd "law" uK t58 m58 c58,q0,g1,dA,ju,fD,fE,jo,lG,ib,jq,jt,lJ,jr,fF,jn,aA,cX,eT⟩:=⟨aS X G a0 (fun _ _ _ _ _ _=>ln1 fun _=>rfl),aS X G a1 (fun _ _ _ _ _ _=>ln2 fun _ _=>rfl),aS X G a2 (fun _ _ _ _ _ _=>ln1 fun _=>rfl),aS X G a3 (fun _ _ _ _ _ _=>ln3 fun _ _ _=>rfl),aS X G a4 (fun _ _ _ _ _ _=>ln3 fun _ _ _=>rfl),aS X G a5 (fun _ _ _ _ _ _=>ln2 fun _ _=>rfl),aS X G a6 (fun _ _ _ _ _ _=>ln3 fun _ _ _=>rfl),aS X G a7 (fun _ _ _ _ _ _=>ln3 fun _ _ _=>rfl),aS X G a8 (fun _ _ _ _ _ _=>ln2 fun _ _=>rfl),aS X G a9 (fun _ _ _ _ _ _=>ln2 fun _ _=>rfl),aS X G a10 (fun _ _ _ _ _ _=>ln3 fun _ _ _=>rfl),aS X G a11 (fun _ _ _ _ _ _=>ln3 fun _ _ _=>rfl),aS X G a12 (fun _ _ _ _ _ _=>ln2 fun _ _=>rfl),aS X G a13 (fun _ _ _ _ _ _=>ln2 fun _ _=>rfl),aS X G a14 (fun _ _ _ _ _ _=>ln2 fun _ _=>rfl),aS X G a15 (fun _ _ _ _ _ _=>ln2 fun _ _=>rfl),aS X G a16 (fun _ _ _ _ _ _=>ln1 fun _=>rfl),aS X G a17 (fun _ _ _ _ _ _=>ln3 fun _ _ _=>rfl),aS X G a18 (fun _ _ _ _ _ _=>ln2 fun _ _=>rfl),aS X G a19 (fun _ _ _ _ _ _=>ln2 fun _ _=>rfl),aS X G a20 (fun _ _ _ _ _ _=>ln3 fun _ _ _=>rfl),aS X G a21 (fun _ _ _ _ _ _=>ln2 fun _ _=>rfl),aS X G a22 (fun _ _ _ _ _ _=>ln2 fun _ _=>rfl),aS X G a23 (fun _ _ _ _ _ _=>ln3 fun _ _ _=>rfl),aS X G a24 (fun _ _ _ _ _ _=>ln3 fun _ _ _=>rfl),aS X G a25 (fun _ _ _ _ _ _=>ln3 fun _ _ _=>rfl),aS X G a26 (fun _ _ _ _ _ _=>ln2 fun _ _=>rfl),aS X G a27 (fun _ _ _ _ _ _=>ln4 fun _ _ _ _=>rfl),aS X G a28 (fun _ _ _ _ _ _=>ln1 fun _=>rfl),aS X G a29 (fun _ _ _ _ _ _=>ln4 fun _ _ _ _=>rfl),aS X G a30 (fun _ _ _ _ _ _=>ln3 fun _ _ _=>rfl),aS X G a31 (fun _ _ _ _ _ _=>ln3 fun _ _ _=>rfl),aS X G a32 (fun _ _ _ _ _ _=>ln3 fun _ _ _=>rfl),aS X G a33 (fun _ _ _ _ _ _=>ln2 fun _ _=>rfl),aS X G a34 (fun _ _ _ _ _ _=>ln3 fun _ _ _=>rfl),aS X G a35 (fun _ _ _ _ _ _=>ln2 fun _ _=>rfl),aS X G a36 (fun _ _ _ _ _ _=>ln2 fun _ _=>rfl),aS X G a37 (fun _ _ _ _ _ _=>ln2 fun _ _=>rfl),aS X G a38 (fun _ _ _ _ _ _=>ln1 fun _=>rfl),aS X G a39 (fun _ _ _ _ _ _=>ln2 fun _ _=>rfl),aS X G a40 (fun _ _ _ _ _ _=>ln2 fun _ _=>rfl),aS X G a41 (fun _ _ _ _ _ _=>ln1 fun _=>rfl),aS X G a42 (fun _ _ _ _ _ _=>ln5 fun _ _ _ _ _=>rfl),aS X G a43 (fun _ _ _ _ _ _=>ln1 fun _=>rfl),aS X G a44 (fun _ _ _ _ _ _=>ln3 fun _ _ _=>rfl),aS X G a45 (fun _ _ _ _ _ _=>ln3 fun _ _ _=>rfl),aS X G a46 (fun _ _ _ _ _ _=>ln2 fun _ _=>rfl),aS X G a47 (fun _ _ _ _ _ _=>ln1 fun _=>rfl),aS X G a48 (fun _ _ _ _ _ _=>ln2 fun _ _=>rfl),aS X G a49 (fun _ _ _ _ _ _=>ln2 fun _ _=>rfl),aS X G a50 (fun _ _ _ _ _ _=>ln1 fun _=>rfl),aS X G a51 (fun _ _ _ _ _ _=>ln3 fun _ _ _=>rfl),aS X G a52 (fun _ _ _ _ _ _=>ln4 fun _ _ _ _=>rfl),aS X G a53 (fun _ _ _ _ _ _=>ln2 fun _ _=>rfl),aS X G a54 (fun _ _ _ _ _ _=>ln1 fun _=>rfl),aS X G a55 (fun _ _ _ _ _ _=>ln4 fun _ _ _ _=>rfl),aS X G a56 (fun _ _ _ _ _ _=>ln4 fun _ _ _ _=>rfl),aS X G a57 (fun _ _ _ _ _ _=>ln4 fun _ _ _ _=>rfl),aS X G a58 (fun _ _ _ _ _ _=>ln1 fun _=>rfl),mg_none_of X G z0,mg_none_of X G z1,mg_none_of X G z2,mg_none_of X G z3,mg_none_of X G z4,mg_none_of X G z5,mg_none_of X G z6,mg_none_of X G z7,mg_none_of X G z8,mg_none_of X G z9,mg_none_of X G z10,mg_none_of X G z11,mg_none_of X G z12,mg_none_of X G z13,mg_none_of X G z14,mg_of X G v0,⟨mg_of X G v1,⟨_,_,_,_,_,_,w1⟩⟩,mg_of X G y0,mg_of X G y1,mg_of X G y2,mg_of X G y3,mg_of X G y4,mg_of X G y5,mg_of X G y6,mg_of X G y7,mg_of X G y8,mg_of X G y9,mg_of X G y10,mg_of X G y11,mg_of X G y12,mg_of X G y13,ve,uV,gS,fw,fh,ik,ja,gz,ir,gQ,i9,g8,fu,gR,fO,pL,⟨z1_TooMany,z2_TooMany,z3_TooMany,z4_TooMany,z5_TooMany,z6_TooMany⟩,⟨Dz lo__law_is_put,l1__law_is_put,Q3 (mg_of X G bb1) bb2 bb3⟩,congrArg Value.ref lc__law_is_put⟩
 exact⟨_,fun s v=>.of_eq rfl,fun base _ _=>QY (e:=⟨l.prog,w,K,mg,base,_⟩) T⟩
theorem walk{l:PySem.W.OpenLaw}{q:Program}{loose:List Str}{XP:(Str->Option Value)->Heap->Prop}{YP:World->Heap->Prop}{d:DefRec}{K:Params->PySem.W.Frag}(tabs:List Addr)(hn:l.most=some 63)(hdf:d.params.defaults=[])
  (hY:∀(w:World) (h:Heap),YP w h->(K w.params).In h/\(∀p∈tabs,h.get? p=some (tabObj #[])/\(K w.params).lookup p=none)/\(∀p∈tabs,isCodeTable h p))
  (hA2:∀(w:World) c o p q,(K w.params).lookup c=some o->bJ o=some (p,q)->p∈tabs)
  (F:∀(w:World) (mg:Str->Option Value) (fa:Addr) (h:Heap),(K w.params).In h->h.Ns mainGlobals mg->mg d.name=some (.ref fa) ->
   ∃fd:FuncData,(∀(s:Shared) (u:Value),BindsTo s fd ⟨[u],[]⟩ [("_law_script",u)])/\∀base:Heap,(K w.params).In base->base.Ns mainGlobals mg->iY l.prog w (K w.params) mg base CX0 13 fa fd ["_law_script"] (spD (K w.params) xH)) :
  PySem.W.WalkO q loose XP YP l.row.toRowW d [] (fun f vs=>PySem.call f vs):=
 L2.Ma (n:=63) (k:=13) (x:="_law_script") (CX:=fun _=>CX0) (sp:=fun w=>spD (K w.params) xH) tabs hn ⋯ hdf ⟨rfl,⋯,⋯⟩ hY hA2 F (fun w H a ns hl hT hS=>J1 hl hT hS) fun _ _ _ _ _ z=>z
end K12
open PySem PySem.W PyProof.Rows L2.DL in
set_option maxRecDepth 100000 in
set_option maxHeartbeats 0 in
theorem PySem.Challenge.cw_matefloors_k12_stretched_and_put_in_holds : PySem.Challenge.rw_matefloors_k12_stretched_and_put_in.Holds :=
 holds_law K12.H.ws fun said=>holds_open (XP:=XL K12.H.V []) (YP:=K12.H.HK.says) (d:=K12.H.D) (kwd:=[]) K12.H.left K12.H.HK.of K12.H.HK.keeps (fun s e=>xl_of s (Bool.and_eq_true_iff.mp e).1) XL.keeps ⟨⟩ ⟨⟩ ⟨⟩
  (fun s e=>recFacts_of (Bool.and_eq_true_iff.mp e).2) ⟨⟩ said ⟨⟩ ⟨⟨⟩,⟨⟩,⟨⟩,⟨⟩,⟨⟩,⟨⟩⟩ ⟨[.list []],⟨⟩,⟨⟩⟩
  (K12.walk (l:=PySem.Challenge.rw_matefloors_k12_stretched_and_put_in) (K:=K12.H.K) K12.H.tabs ⟨⟩ ⟨⟩ (fun w h Y=>by
   have Y:(K12.H.KF w.params).In h:=Y
   refine⟨C6 Y,fun p hp=>?_,fun p hp=>?_⟩
   ·rcases List.mem_cons.mp hp with rfl|hp
    ·exact⟨Y _ _ (K12.H.nX w.params).1,(K12.H.nX w.params).2⟩
    rcases List.mem_cons.mp hp with rfl|hp
    ·exact⟨Y _ _ (K12.H.Ju w.params).1,(K12.H.Ju w.params).2⟩
    exact nomatch hp
   ·rcases List.mem_cons.mp hp with rfl|hp
    ·obtain⟨o,e1,e2⟩:=Dz (K12.H.mv w.params);exact BC (C6 Y) e1 e2
    rcases List.mem_cons.mp hp with rfl|hp
    ·obtain⟨o,e1,e2⟩:=Dz (K12.H.Nl w.params);exact BC (C6 Y) e1 e2
    exact nomatch hp) (fun w c o p q e e2=>by
   have h:=Jp (K12.H.Md w.params) e e2
   have h2:=mem_map_of_mem (f:=fun x:Addr×Str=>x.1) h
   exact h2) fun w mg fa h KX G hmg=>by
   obtain⟨h0,h1,h2,h3,h4,h5,h6,h7,h8,h9,h10,h11,h12,h13⟩:=K12.H.Q1 w.params
   obtain⟨h14,h15,h16,h17,h18,h19,h20,h21,h22,h23,h24,h25,h26,h27⟩:=K12.H.Qy w.params
   obtain⟨h28,h29,h30,h31,h32,h33,h34,h35,h36,h37,h38,h39,h40,h41⟩:=K12.H.RQ w.params
   obtain⟨h42,h43,h44,h45,h46,h47,h48,h49,h50,h51,h52,h53,h54,h55⟩:=K12.H.Ry w.params
   obtain⟨h56,h57,h58,h59,h60,h61,h62,h63,h64,h65,h66,h67,h68,h69⟩:=K12.H.RS w.params
   obtain⟨h70,h71,h72,h73,h74,h75,h76,h77,h78,h79,h80,h81,h82,h83⟩:=K12.H.R4 w.params
   obtain⟨h84,h85,h86,h87,h88,h89,h90,h91,h92,h93,h94,h95,h96,h97⟩:=K12.H.Rv w.params
   obtain⟨h98,h99,h100,h101,h102,h103,h104,h105,h106,h107,h108,h109,h110,h111⟩:=K12.H.Sy w.params
   have h112:=K12.H.RJ w.params
   exact K12.all_mk KX G hmg h0 h1 h2 h3 h4 h5 h6 h7 h8 h9 h10 h11 h12 h13 h14 h15 h16 h17 h18 h19 h20 h21 h22 h23 h24 h25 h26 h27 h28 h29 h30 h31 h32 h33 h34 h35 h36 h37 h38 h39 h40 h41 h42 h43 h44 h45 h46 h47 h48 h49 h50 h51 h52 h53 h54 h55 h56 h57 h58 h59 h60 h61 h62 h63 h64 h65 h66 h67 h68 h69 h70 h71 h72 h73 h74 h75.1 h75.2 h76 h77 h78 h79 h80 h81 h82 h83 h84 h85 h86 h87 h88 h89 h90 h91 h92 h93 h94 h95 h96 h97 h98 h99 h100 h101 h102 h103 h104 h105 h106 h107 h108 h109 h110 h111 h112.1 h112.2.1 h112.2.2 (K12.H.mv w.params) (fun c2 o2 q2 e e2=>K12.H.va (Jp (K12.H.Md w.params) e e2)) rfl)
