import PyProof.Rows.All
import KE.KFind
import KE.KLam
import KE.KTryMore
import KE.LcSums
import KE.KRevSl
import Lean
import PySem.Challenge.RW_matefloors_k28_plans_refused
set_option Elab.async false
set_option linter.all false
set_option maxRecDepth 100000
set_option maxHeartbeats 4000000
set_option genSizeOf false
set_option compiler.extract_closed false
set_option bootstrap.genMatcherCode false
local macro_rules|`(‹$q›)=>`({nx:=fun _ y=>$q (.v .none) y,rt:=$q})
local macro_rules | `(⋯) => `((by decide))
local macro_rules | `(∅) => `((by omega))
local macro_rules | `(nofun) => `((by decide +kernel))
local macro_rules | `(⟨⟩) => `((by kernel_rfl))
local macro_rules | `(tactic| walk_at "s") => `(tactic| exact ⟨rfl, rfl, rfl, by decide +kernel, rfl, by decide +kernel, by decide +kernel⟩)
local macro_rules | `(tactic| walk_at "b") => `(tactic| (intro _ _ _ _ _ _ us hl; first | exact (match us, hl with | [_], _ => rfl) | exact (match us, hl with | [_, _], _ => rfl) | exact (match us, hl with | [_, _, _], _ => rfl) | exact (match us, hl with | [_, _, _, _], _ => rfl) | exact (match us, hl with | [_, _, _, _, _], _ => rfl)))
open PySem.W (fnOf nsIn codeIn keepIn kitOne kia_one excIn findIn mroIn clsIn tabObj kla_fn exmOne mg_of mg_none_of)
open List (map_append map_map mem_append_left filterMap_cons mem_cons_self mem_cons_of_mem mem_append_right size_toArray length_take getElem?_append_left getElem?_map mem_of_getElem? length_append length_map replicate_succ flatten_cons length_singleton map_nil map_cons length_cons take_length lookup_cons all_eq_true getElem?_cons_zero length_nil nil_append cons_append getElem?_cons_succ set_cons_zero set_cons_succ mem_cons not_mem_nil any_cons any_nil sum_cons sum_nil mem_map_of_mem take_succ)
open Int (natAbs_mul le_of_lt eq_of_mul_eq_mul_right mul_ne_zero mul_nonneg mul_pos)
open Nat (lt_of_lt_of_le ne_of_lt lt_irrefl le_trans le_refl le_succ lt_or_ge zero_le lt_succ_of_lt)
open Bool (false_eq_true and_eq_true xor_false false_xor true_xor)
open Option (bind_some map_some join_some bind_none)
open PySem (mem_of_lookup)
namespace L2
open PySem PySem.W
def tq:Sem Fin->Bool
 |.choose ..=>false
 |.os ..=>false
 |_=>true
theorem UR{den:Code->Sem Fin}{p:Program}{w:World}{os:OsState}{s s':Shared}{t t':Thread}(h:tq t.cur=true)(e:step den p ⟨fun _ _=>0,w.params⟩ s t = .go s' t') :
  step den p w {s with os:=os} t = .go {s' with os:=os} t':=by
 obtain⟨heap,gens,drawn,toks,os0⟩:=s
 obtain⟨cur,code,pos,stack⟩:=t
 cases cur<;>simp only[step,finish,tq] at e h ⊢<;>(try (cases h;done))<;>(repeat' split at e)<;>simp_all<;>(try (obtain⟨rfl,rfl⟩:=e;simp_all))<;>(try (obtain⟨h1,h2⟩:=e;subst h1;rfl))
def zM(tb:String->Option Builtin)(p:Program)(P:Params)(lm:Nat)(ann:Option Value):Nat->Shared->Thread->Option Shared
 |0,_,_=>none
 |n+1,s,t=>match through t with
  |true=>some s
  |false=>match stepOk lm ann t&&tq t.cur with
   |false=>none
   |true=>match step (denote tb) p ⟨fun _ _=>0,P⟩ s t with
    |.go s' t'=>zM tb p P lm ann n s' t'
    |.halt _ _=>none
theorem Ff{tb:String->Option Builtin}{p:Program}{w:World}{lm:Nat}{ann:Option Value}{os:OsState}:∀{n:Nat} {s s':Shared} {t:Thread},zM tb p w.params lm ann n s t=some s'->topRun tb p w lm ann n {s with os:=os} t=some {s' with os:=os}
 |0,_,_,_,h=>by cases h
 |n+1,s,s',t,h=>by
  unfold zM at h
  unfold topRun
  cases ht:through t with
  |true=>rw[ht] at h;cases h;rfl
  |false=>
   rw[ht] at h
   cases hk:(stepOk lm ann t&&tq t.cur) with
   |false=>rw[hk] at h;cases h
   |true=>
    rw[hk] at h
    obtain⟨k1,k2⟩:=Bool.and_eq_true_iff.mp hk
    cases hs:step (denote tb) p ⟨fun _ _=>0,w.params⟩ s t with
    |halt o l'=>rw[hs] at h;cases h
    |go l' wf=>
     rw[hs] at h
     rw[k1,UR (os:=os) k2 hs]
     exact Ff h
noncomputable def Dr(p:Program)(P:Params)(lm:Nat)(ann:Option Value):Nat->Shared->Thread->Option Shared
 |0,_,_=>none
 |n+1,s,t=>match through t with
  |true=>some s
  |false=>match Fast.tw6613529449190102663 lm ann t&&tq t.cur with
   |false=>none
   |true=>match Fast.tw8437177126325714943 (Fast.tw11892475500146522536 Fast.tw14364793385576792824) p ⟨fun _ _=>0,P⟩ s t with
    |.go s' t'=>Dr p P lm ann n s' t'
    |.halt _ _=>none
theorem Fp{p:Program}{P:Params}{lm:Nat}{ann:Option Value}:∀(n:Nat) (s:Shared) (t:Thread),Dr p P lm ann n s t=zM treeTable p P lm ann n s t
 |0,_,_=>rfl
 |n+1,s,t=>by
  unfold Dr zM
  rw[<- Fast.te6613529449190102663,<- Fast.te8437177126325714943,<- Fast.te11892475500146522536,<- Fast.te14364793385576792824]
  cases through t with
  |true=>rfl
  |false=>
   cases (stepOk lm ann t&&tq t.cur) with
   |false=>rfl
   |true=>
    cases step (denote treeTable) p ⟨fun _ _=>0,P⟩ s t with
    |halt o l'=>rfl
    |go l' wf=>exact Fp n l' wf
end L2
namespace L2
open PySem
def rF(s:Stmt):Arguments:=match s with
 |.FunctionDef _ a _ _ _ _ _ _ _ _=>a
 |_=>{posonlyargs:=[],args:=[],vararg:=none,kwonlyargs:=[],kw_defaults:=[],kwarg:=none,defaults:=[]}
def iL(s:Stmt):List Stmt:=match s with
 |.FunctionDef _ _ b _ _ _ _ _ _ _=>b
 |_=>[]
def aC(s:Stmt):Scope:=match s with
 |.FunctionDef _ _ _ _ _ _ sc _ _ _=>sc
 |_=>{kind:=.function,names:=[],isGenerator:=false,isCoroutine:=false}
end L2
namespace L2.DL
open PySem
def Qa:List Str:=["law","_law_is_right","_law_is_put","_law_are_refused","_law_is_told","_law_said","_law_is_plan_told"]
def cX(o:Obj):Option (Addr×Str):=match o.cls,o.data with
 |.type c,.fields vs=>if c = "code" then (match vs[1]?,vs[7]?,vs[9]?,vs[10]?,vs[11]?,vs[18]? with
  |some (Value.str q _),some (Value.int _ _),some (Value.bool _),some (Value.int _ _),some (Value.ref P),some (Value.str _ _)=>if Qa.contains q=true then some (P,q) else none
  |_,_,_,_,_,_=>none) else none
 |_,_=>none
abbrev bmV:List Value:=[.type "ValueError",.type "Exception",.type "BaseException",.type "object"]
end L2.DL
namespace K28
open PySem L2
def top(i:Nat):Stmt:=PySem.Challenge.pw_matefloors_k28_plans_refused.main.body.getD i (.Pass ⟨0,0,0,0⟩)
abbrev nz:Stmt:=top 18
abbrev eu:Stmt:=top 19
abbrev jN:Stmt:=top 21
abbrev eM:Stmt:=top 22
abbrev sJ:Stmt:=top 23
abbrev BB:Stmt:=top 25
abbrev xA:Stmt:=top 27
abbrev mn:Stmt:=top 29
abbrev pQ:Stmt:=top 30
abbrev fu:Stmt:=top 31
abbrev nj:Stmt:=top 32
abbrev dX:Stmt:=top 33
abbrev cM:Stmt:=top 34
abbrev jX:Stmt:=top 39
abbrev lX:Stmt:=top 40
abbrev fv:Stmt:=top 41
abbrev pW:Stmt:=top 47
abbrev mP:Stmt:=top 48
abbrev nF:Stmt:=top 49
abbrev ml:Stmt:=top 50
abbrev gj:Stmt:=top 51
abbrev lY:Stmt:=top 52
abbrev ir:Stmt:=top 53
abbrev pU:Stmt:=top 54
abbrev tf:Stmt:=top 55
abbrev mi:Stmt:=top 56
abbrev pV:Stmt:=top 58
abbrev fZ:Stmt:=top 59
abbrev jR:Stmt:=top 60
abbrev nA:Stmt:=top 71
abbrev nB:Stmt:=top 74
abbrev jL:Stmt:=top 75
abbrev fq:Stmt:=top 76
abbrev gW:Stmt:=top 77
abbrev l4:Stmt:=top 78
abbrev eJ:Stmt:=top 79
abbrev jV:Stmt:=top 80
abbrev iq:Stmt:=top 81
abbrev iJ:Stmt:=top 82
abbrev fj:Stmt:=top 83
abbrev jS:Stmt:=top 84
abbrev jZ:Stmt:=top 85
abbrev gU:Stmt:=top 86
abbrev iw:Stmt:=top 87
abbrev ny:Stmt:=top 88
abbrev gc:Stmt:=top 89
abbrev iH:Stmt:=top 90
abbrev eE:Stmt:=top 91
abbrev eC:Stmt:=top 92
abbrev eL:Stmt:=top 93
abbrev jP:Stmt:=top 94
abbrev lR:Stmt:=top 95
abbrev iC:Stmt:=top 96
abbrev fm:Stmt:=top 97
abbrev eo:Stmt:=top 98
abbrev gr:Stmt:=top 99
abbrev gh:Stmt:=top 100
abbrev eG:Stmt:=top 101
abbrev eI:Stmt:=top 102
abbrev dG:Stmt:=top 103
abbrev fk:Stmt:=top 104
abbrev gk:Stmt:=top 105
abbrev dF:Stmt:=top 106
abbrev xT:Stmt:=top 107
abbrev fd(n:Str)(s:Stmt)(tk:Tok)(m:Str)(cd:Addr):FuncData:=fnOf n n (rF s) (iL s) (aC s) .none .none .none (.str m tk) none (.ref cd) .none
noncomputable abbrev FQ(K:PySem.W.Frag)(n:Str)(s:Stmt)(a cd:Addr)(tk:Tok)(m:Str):Prop:=nsIn K mainGlobals n=some (some (.ref a))/\K.lookup a=some ⟨.type "function",none,.func (fd n s tk m cd),#[]⟩/\codeIn K (.ref cd) n=true/\keepIn K (.ref a)=true
end K28
namespace K28.H
open PySem PySem.W PyProof.Rows L2 L2.DL
set_option maxHeartbeats 0
abbrev R:OpenLaw:=PySem.Challenge.rw_matefloors_k28_plans_refused
abbrev LO:List Str:=["has_form","has_form_layings","has_form_plans"]
noncomputable def sT(P:Params):Option Shared:=Dr R.row.prog P 11 (some (.ref 6)) 20000 {heap:=boot_heap P,gens:=#[],drawn:=boot_drawn,toks:=boot_toks,os:=default} (topStub R.row.prog)
def defName:Stmt->Str
 |.FunctionDef n _ _ _ _ _ _ _ _ _=>n
 |_=>Str.empty
def Oq:Stmt->Int
 |.FunctionDef _ _ _ _ _ _ _ _ _ p=>Int.ofNat p.line
 |_=>0
def cn(o:Obj)(r:List Obj):List Obj:=o::r
def g(P:Params)(x:Str)(t:Nat)(v:Value):DictEntry:=⟨PyData.keyHash P x,.str x t,v⟩
def gf(P:Params)(i t a:Nat):DictEntry:=g P (defName (top i)) t (.ref a)
def tb:List (Int×Nat)->List Value
 |[]=>[]
 |(a,b)::l=>.int a 0::.int 0 0::.ref b::tb l
def tu(l:List Value):Obj:=⟨.type "tuple",none,.seq l.toArray 0,#[]⟩
def nf:Obj:=⟨.none,none,.fields #[],#[]⟩
def dp(s:Stmt):List Str:=(rF s).args.map (·.arg)
def fd(s:Stmt)(a:Addr)(p c:Value):Data:=.func {name:=defName s,qualname:=defName s,params:=rF s,body:=.stmts (iL s),scope:=aC s,globals:=a,closure:=[],defaults:=.none,kwdefaults:=.none,pyModule:=p,code:=c}
def co(s:Stmt)(a t u:Nat)(x y:Value)(d:Nat):Obj:=⟨.type "code",none,.fields #[.str (defName s) t,.str (defName s) (t+1),.str "/claim/cut.py" (t+2),.int (Oq s) 0,.int (Int.ofNat (dp s).length) 0,.int 0 0,.int 0 0,.int 3 0,.ref a,.bool true,.int 181 0,.ref (a+1),.none,x,y,.ref (a+d),.int (Int.ofNat u) 0,.int (Oq s) 0,.str "/claim/cut.py" (u+1)],#[]⟩
def nv:Nat->List Str->List Value
 |_,[]=>[]
 |t,x::l=>.str x t::nv (t+1) l
def fB(i a t:Nat)(l:List Str)(p:Value)(r:List Obj):List Obj:=tu []::nf::tu (nv (t+3) (dp (top i)++l))::tu []::⟨.none,none,fd (top i) 0 .none .none,#[]⟩::co (top i) a t (t+3+(dp (top i)++l).length) (.ref (a+2)) (.ref (a+3)) 4::⟨.type "function",none,fd (top i) 3 p (.ref (a+5)),#[]⟩::r
def fL(i a t:Nat)(p:Value)(r:List Obj):List Obj:=tu []::nf::⟨.none,none,fd (top i) 0 .none .none,#[]⟩::co (top i) a t (t+3) .none .none 2::⟨.type "function",none,fd (top i) 3 p (.ref (a+3)),#[]⟩::r
def me:Value:=.str "matefloors.errors" 187
def cB(P:Params)(x:Str)(i t:Nat)(n:Int)(r:List Obj):List Obj:=tu [.ref 24]::⟨.type "builtin_function_or_method",none,.fields #[.builtin "type.__prepare__",.type "type"],#[]⟩::⟨.type "dict",none,.dict #[g P "__module__" (t+5) me,g P "__qualname__" (t+7) (.str x (t+6)),g P "__firstlineno__" (t+9) (.int n (t+8)),g P "__static_attributes__" (t+10) (.ref (i+7))] 4,#[]⟩::tu []::nf::⟨.type "code",none,.fields #[.str x t,.str x (t+1),.str "/claim/cut.py" (t+2),.int n 0,.int 0 0,.int 0 0,.int 0 0,.int 0 0,.ref (i+3),.bool false,.int 181 0,.ref (i+4),.none,.none,.none,.none,.int (Int.ofNat (t+3)) 0,.int n 0,.str "/claim/cut.py" (t+4)],#[]⟩::⟨.type "frame",none,.plain,#[some (.ref (i+5)),some (.ref 3),some (.ref (i+2)),none,some me,none,some (.ref 0)]⟩::tu []::⟨.type "dict",none,.dict #[g P "__module__" (t+5) me,g P "__firstlineno__" (t+9) (.int n (t+8)),g P "__static_attributes__" (t+10) (.ref (i+7)),g P "__doc__" (t+11) .none] 2,#[]⟩::⟨.type "type",none,.cls ⟨x,[.ref 24],[.ref (i+9),.ref 24,.type "ValueError",.type "Exception",.type "BaseException",.type "object"],i+8,x,true,[],[],false,none,false⟩,#[some (.ref i),none,some (.str x (t-2)),some (.str x (t+6)),some (.builtin "ValueError.__new__"),some (.bool true)]⟩::⟨.type "super",none,.fields #[.ref (i+9),.ref (i+9),.ref (i+9)],#[]⟩::⟨.type "builtin_function_or_method",none,.fields #[.builtin "object.__init_subclass__",.ref (i+9)],#[]⟩::r
def m0:Value:=.str "matefloors.numbers" 415
def m1:Value:=.str "matefloors.layings" 584
def m2:Value:=.str "matefloors.plans" 615
def m3:Value:=.str "matefloors.spots" 706
def m4:Value:=.str "law_matefloors_k28_plans_refused" 892
noncomputable def ho0(P:Params)(r:List Obj):List Obj:=cn (boot_o_0 P) <| cn (boot_o_1 P) <| cn (boot_o_2 P) <| cn (⟨.type "dict",none,.dict #[g P "__name__" 165 (.str "law_matefloors_k28_plans_refused" 892),g P "__doc__" 166 .none,g P "__package__" 167 .none,g P "__loader__" 168 (.builtin "__main__.__loader__#opaque"),g P "__spec__" 169 .none,g P "__annotations__" 170 (.ref 6),g P "__builtins__" 171 (.ref 4),g P "__file__" 173 (.str "/claim/cut.py" 172),g P "__cached__" 174 .none,g P "FloorError" 206 (.ref 24),g P "NoRoot" 222 (.ref 37),g P "NoNumber" 238 (.ref 49),g P "NoLaying" 254 (.ref 61),g P "NoTile" 270 (.ref 73),g P "NoFit" 286 (.ref 85),g P "NoKinds" 302 (.ref 97),g P "NoPlan" 318 (.ref 109),g P "NoSpot" 334 (.ref 121),g P "NoNet" 350 (.ref 133),g P "NoText" 366 (.ref 145),g P "NoSaying" 382 (.ref 157),g P "NoName" 398 (.ref 169),g P "TooMany" 414 (.ref 181),g P "NOUGHT" 420 (.ref 184),g P "ONE" 424 (.ref 185),gf P 18 431 192,gf P 19 439 199,gf P 20 447 206,gf P 21 457 213,gf P 22 466 220,gf P 23 476 227,gf P 24 483 234,gf P 25 491 241,gf P 26 499 248,gf P 27 508 255,gf P 28 517 262,gf P 29 526 269,gf P 30 534 276,gf P 31 544 283,gf P 32 555 290,gf P 33 563 297,gf P 34 571 304,gf P 35 583 311,g P "MOST_TILES" 587 (.int 60 586),g P "MOST_KINDS" 589 (.int 3 588),gf P 39 600 318,gf P 40 606 323,gf P 41 614 330,g P "MOST_WITHIN" 618 (.int 12 617),g P "MOST_PLANS" 620 (.int 60 619),g P "LEAST_PARTS" 622 (.int 2 621),g P "MOST_PARTS" 624 (.int 8 623),gf P 47 637 337,gf P 48 646 344,gf P 49 653 351,gf P 50 661 358,gf P 51 669 365,gf P 52 678 372,gf P 53 684 377,gf P 54 690 382,gf P 55 699 389,gf P 56 705 394,gf P 58 721 401,gf P 59 731 408,gf P 60 745 415,gf P 61 752 422,gf P 62 758 427,gf P 63 764 432,gf P 64 775 439,gf P 65 793 446,gf P 66 809 453,gf P 67 821 460,gf P 68 835 467,gf P 69 852 474,gf P 70 864 481,gf P 71 876 488,gf P 72 891 495,gf P 74 905 502,gf P 75 914 509,gf P 76 921 516,gf P 77 929 523,gf P 78 939 530,gf P 79 945 535,gf P 80 953 542,gf P 81 960 549,gf P 82 969 556,gf P 83 977 563,gf P 84 988 570,gf P 85 994 575,gf P 86 1006 582,gf P 87 1016 589,gf P 88 1024 596,gf P 89 1030 601,gf P 90 1043 608,gf P 91 1053 615,gf P 92 1064 622,gf P 93 1071 629,gf P 94 1077 634,gf P 95 1086 641,gf P 96 1092 646,gf P 97 1098 651,gf P 98 1106 658,gf P 99 1116 665,gf P 100 1125 672,gf P 101 1138 679,gf P 102 1148 686,gf P 103 1161 693,gf P 104 1173 700,gf P 105 1181 707,gf P 106 1187 712,gf P 107 1200 719] 111,#[]⟩) <| cn (boot_o_4 P) <| cn (boot_o_5 P) <| cn (boot_o_6 P) <| cn (boot_o_7 P) <| cn (boot_o_8 P) <| cn (boot_o_9 P) <| cn (boot_o_10 P) <| cn (⟨(.type "tuple"),none,(.seq #[] 0),#[]⟩) <| cn (⟨.none,none,.fields (tb [(2,20),(4,33),(6,45),(8,57),(10,69),(12,81),(14,93),(16,105),(18,117),(20,129),(22,141),(24,153),(26,165),(28,177),(33,191),(35,198),(39,205),(44,212),(51,219),(53,226),(60,233),(62,240),(64,247),(66,254),(68,261),(72,268),(75,275),(77,282),(86,289),(90,296),(92,303),(95,310),(104,317),(107,322),(111,329),(119,336),(130,343),(143,350),(145,357),(152,364),(155,371),(159,376),(163,381),(175,388),(180,393),(187,400),(204,407),(207,414),(212,421),(214,426),(218,431),(226,438),(229,445),(241,452),(246,459),(251,466),(255,473),(263,480),(268,487),(277,494),(292,501),(302,508),(309,515),(311,522),(316,529),(319,534),(323,541),(325,548),(327,555),(329,562),(331,569),(337,574),(342,581),(348,588),(354,595),(357,600),(367,607),(379,614),(383,621),(389,628),(391,633),(416,640),(421,645),(432,650),(449,657),(451,664),(454,671),(456,678),(466,685),(469,692),(477,699),(482,706),(485,711),(511,718)]).toArray,#[]⟩) <| cn (⟨(.type "code"),none,(.fields #[(.str "<module>" 182),(.str "<module>" 183),(.str "/claim/cut.py" 184),(.int 1 0),(.int 0 0),(.int 0 0),(.int 0 0),(.int 0 0),(.ref 11),(.bool false),(.int 181 0),(.ref 12),.none,.none,.none,.none,(.int 185 0),(.int 1 0),(.str "/claim/cut.py" 186)]),#[]⟩) <| cn (⟨(.type "frame"),none,.plain,#[some (.ref 13),some (.ref 3),some (.ref 3),none,some (.str "__main__" 164),none,some (.ref 0)]⟩) <| cn (⟨(.type "tuple"),none,(.seq #[(.type "ValueError")] 0),#[]⟩) <| cn (⟨(.type "builtin_function_or_method"),none,(.fields #[(.builtin "type.__prepare__"),(.type "type")]),#[]⟩) <| cn (⟨(.type "dict"),none,(.dict #[⟨PyData.keyHash P "__module__",(.str "__module__" 196),(.str "matefloors.errors" 187)⟩,⟨PyData.keyHash P "__qualname__",(.str "__qualname__" 198),(.str "FloorError" 197)⟩,⟨PyData.keyHash P "__firstlineno__",(.str "__firstlineno__" 200),(.int 2 199)⟩,⟨PyData.keyHash P "__static_attributes__",(.str "__static_attributes__" 201),(.ref 22)⟩] 4),#[]⟩) <| cn (⟨(.type "tuple"),none,(.seq #[] 0),#[]⟩) <| cn (⟨.none,none,(.fields #[]),#[]⟩) <| r
noncomputable def ho1(P:Params)(r:List Obj):List Obj:=cn (⟨(.type "code"),none,(.fields #[(.str "FloorError" 191),(.str "FloorError" 192),(.str "/claim/cut.py" 193),(.int 2 0),(.int 0 0),(.int 0 0),(.int 0 0),(.int 0 0),(.ref 18),(.bool false),(.int 181 0),(.ref 19),.none,.none,.none,.none,(.int 194 0),(.int 2 0),(.str "/claim/cut.py" 195)]),#[]⟩) <| cn (⟨(.type "frame"),none,.plain,#[some (.ref 20),some (.ref 3),some (.ref 17),none,some (.str "matefloors.errors" 187),none,some (.ref 0)]⟩) <| cn (⟨(.type "tuple"),none,(.seq #[] 0),#[]⟩) <| cn (⟨(.type "dict"),none,(.dict #[⟨PyData.keyHash P "__module__",(.str "__module__" 196),(.str "matefloors.errors" 187)⟩,⟨PyData.keyHash P "__firstlineno__",(.str "__firstlineno__" 200),(.int 2 199)⟩,⟨PyData.keyHash P "__static_attributes__",(.str "__static_attributes__" 201),(.ref 22)⟩,⟨PyData.keyHash P "__weakref__",(.str "__weakref__" 203),(.ref 25)⟩,⟨PyData.keyHash P "__doc__",(.str "__doc__" 204),.none⟩] 3),#[]⟩) <| cn (⟨(.type "type"),none,(.cls ⟨"FloorError",[(.type "ValueError")],[(.ref 24),(.type "ValueError"),(.type "Exception"),(.type "BaseException"),(.type "object")],23,"FloorError",true,[],[(.ref 37),(.ref 49),(.ref 61),(.ref 73),(.ref 85),(.ref 97),(.ref 109),(.ref 121),(.ref 133),(.ref 145),(.ref 157),(.ref 169),(.ref 181)],false,none,false⟩),#[some (.ref 15),none,some (.str "FloorError" 189),some (.str "FloorError" 197),some (.builtin "ValueError.__new__"),some (.bool true)]⟩) <| cn (⟨(.type "getset_descriptor"),none,(.fields #[(.str "__weakref__" 202),(.ref 24),(.builtin "ExceptionGroup.__weakref__"),.none]),#[]⟩) <| cn (⟨(.type "super"),none,(.fields #[(.ref 24),(.ref 24),(.ref 24)]),#[]⟩) <| cn (⟨(.type "builtin_function_or_method"),none,(.fields #[(.builtin "object.__init_subclass__"),(.ref 24)]),#[]⟩) <| cB P "NoRoot" 28 209 4 <| cB P "NoNumber" 40 225 6 <| cB P "NoLaying" 52 241 8 <| cB P "NoTile" 64 257 10 <| cB P "NoFit" 76 273 12 <| cB P "NoKinds" 88 289 14 <| cB P "NoPlan" 100 305 16 <| cB P "NoSpot" 112 321 18 <| cB P "NoNet" 124 337 20 <| cB P "NoText" 136 353 22 <| cB P "NoSaying" 148 369 24 <| cB P "NoName" 160 385 26 <| r
noncomputable def ho2(P:Params)(r:List Obj):List Obj:=cB P "TooMany" 172 401 28 <| cn (⟨(.type "tuple"),none,(.seq #[(.int 0 417),(.int 0 418),(.int 1 419)] 0),#[]⟩) <| cn (⟨(.type "tuple"),none,(.seq #[(.int 1 421),(.int 0 422),(.int 1 423)] 0),#[]⟩) <| fB 18 186 425 [] m0 <| fB 19 193 432 [] m0 <| fB 20 200 440 ["guess"] m0 <| fB 21 207 448 ["a","b","c"] m0 <| fB 22 214 458 [] m0 <| fB 23 221 467 ["divisor"] m0 <| fB 24 228 477 [] m0 <| fB 25 235 484 [] m0 <| fB 26 242 492 [] m0 <| fB 27 249 500 [] m0 <| fB 28 256 509 [] m0 <| fB 29 263 518 ["norm"] m0 <| fB 30 270 527 [] m0 <| fB 31 277 535 ["prevailing"] m0 <| fB 32 284 545 ["a","b"] m0 <| fB 33 291 556 [] m0 <| fB 34 298 564 [] m0 <| r
noncomputable def ho3(P:Params)(r:List Obj):List Obj:=fB 35 305 572 ["a","b","c","beneath"] m0 <| fB 39 312 590 ["x","y","width","height"] m1 <| fL 40 319 601 m1 <| fB 41 324 607 [] m1 <| fB 47 331 625 ["waiting","counted","plan","depth","part"] m2 <| fB 48 338 638 ["word"] m2 <| fB 49 345 647 [] m2 <| fB 50 352 654 ["word"] m2 <| fB 51 359 662 [] m2 <| fB 52 366 670 [] m2 <| fL 53 373 679 m2 <| fL 54 378 685 m2 <| fB 55 383 691 ["total","shape"] m2 <| fL 56 390 700 m2 <| fB 58 395 708 ["shape","box","quarters"] m3 <| fB 59 402 722 [] m3 <| fB 60 409 732 ["left","right","bottom","top"] m3 <| fB 61 416 746 [] m3 <| fL 62 423 753 m3 <| fL 63 428 759 m3 <| r
noncomputable def ho4(P:Params)(r:List Obj):List Obj:=fB 64 433 765 ["x","y","width","height"] m3 <| fB 65 440 776 ["x","y","width","height","boxes","start","size","high"] m3 <| fB 66 447 794 ["width","height","column","row"] m3 <| fB 67 454 810 ["columns","rows"] m3 <| fB 68 461 822 ["right","up"] m3 <| fB 69 468 836 ["width","height","boxes","row","column","across","upward"] m3 <| fB 70 475 853 ["turn"] m3 <| fB 71 482 865 ["height","tiles"] m3 <| fB 72 489 877 ["word","tiles","inner","part"] m3 <| fB 74 496 894 ["_law_cell","_law_great","_law_primes","_law_mixed"] m4 <| fB 75 503 906 ["_law_digit"] m4 <| fB 76 510 915 [] m4 <| fB 77 517 922 [] m4 <| fB 78 524 930 ["_law_common"] m4 <| fL 79 531 940 m4 <| fB 80 536 946 [] m4 <| fB 81 543 954 [] m4 <| fB 82 550 961 [] m4 <| fB 83 557 970 [] m4 <| fB 84 564 978 ["_law_first","_law_second","_law_sides"] m4 <| r
noncomputable def ho5(P:Params)(r:List Obj):List Obj:=fL 85 571 989 m4 <| fB 86 576 995 ["_law_wide","_law_a","_law_b","_law_c","_law_way"] m4 <| fB 87 583 1007 ["_law_x","_law_sign_here"] m4 <| fB 88 590 1017 ["_law_some"] m4 <| fL 89 597 1025 m4 <| fB 90 602 1031 ["_law_found","_law_turn","_law_way","_law_part","_law_kind"] m4 <| fB 91 609 1044 ["_law_x","_law_some"] m4 <| fB 92 616 1054 ["_law_at","_law_way"] m4 <| fB 93 623 1065 [] m4 <| fL 94 630 1072 m4 <| fB 95 635 1078 ["_law_found","_law_one"] m4 <| fL 96 642 1087 m4 <| fL 97 647 1093 m4 <| fB 98 652 1099 [] m4 <| fB 99 659 1107 ["_law_wide"] m4 <| fB 100 666 1117 [] m4 <| fB 101 673 1126 ["_law_odd_here","_law_way","_law_at","_law_small"] m4 <| fB 102 680 1139 ["_law_thing"] m4 <| fB 103 687 1149 ["_law_found","_law_kind","_law_x"] m4 <| fB 104 694 1162 ["_law_x","_law_below","_law_some"] m4 <| r
noncomputable def ho6(P:Params)(r:List Obj):List Obj:=fB 105 701 1174 ["_law_thing"] m4 <| fL 106 708 1182 m4 <| fB 107 713 1188 ["_law_k","_law_bag_here","_law_d","_law_kinds_here","_law_plan_here","_law_turn"] m4 <| r
noncomputable def hT(P:Params):Heap:=⟨⟨ho0 P <| ho1 P <| ho2 P <| ho3 P <| ho4 P <| ho5 P <| ho6 P []⟩,(boot_heap P).life⟩
abbrev mz0:Str:="matefloors.numbers"
abbrev mz1:Str:="matefloors.layings"
abbrev mz2:Str:="matefloors.plans"
abbrev mz3:Str:="matefloors.spots"
abbrev mz4:Str:="law_matefloors_k28_plans_refused"
def isNm:Stmt->Bool
 |.Assign [.Name x _] _ _=>x == "__name__"
 |_=>false
def V:Program:={R.row.prog with main:={R.row.prog.main with body:=R.row.prog.main.body.filter fun s=>!isNm s}}
def as:List Addr:=[3,192,191,199,198,213,212,220,219,227,226,241,240,255,254,269,268,276,275,283,282,290,289,297,296,304,303,318,317,323,322,330,329,337,336,344,343,351,350,358,357,365,364,372,371,377,376,382,381,389,388,394,393,401,400,408,407,415,414,488,487,502,501,509,508,516,515,523,522,530,529,535,534,542,541,549,548,556,555,563,562,570,569,575,574,582,581,589,588,596,595,601,600,608,607,615,614,622,621,629,628,634,633,641,640,646,645,651,650,658,657,665,664,672,671,679,678,686,685,693,692,700,699,707,706,712,711,719,718,184,185,24,23,37,36,49,48,61,60,73,72,85,84,97,96,109,108,121,120,133,132,145,144,157,156,169,168,181,180,4]
def tabs:List Addr:=[709,714]
noncomputable def K(P:Params):Frag:=as.map fun a=>(a,((hT P).get? a).getD default)
noncomputable def TF(P:Params):Frag:=tabs.map fun a=>(a,((hT P).get? a).getD default)
noncomputable def KF(P:Params):Frag:=K P++TF P
theorem kAs(P:Params):as++tabs=(KF P).map (·.1):=by
 unfold KF K TF
 rw[map_append,map_map,map_map]
 exact congr (congrArg HAppend.hAppend (List.map_id _).symm) (List.map_id _).symm
noncomputable def HK:Hook:=kHook KF (as++tabs) kAs
def posOf:Stmt->Pos
 |.FunctionDef _ _ _ _ _ _ _ _ _ p=>p
 |_=>⟨0,0,0,0⟩
def D:DefRec:=⟨"law",rF K28.xT,iL K28.xT,aC K28.xT,posOf K28.xT⟩
def Xt:Shared->Bool:=fun s=>xlAt V [] s&&recOk R.row.records s
theorem runC(P:Params):(sT P).map (fun s=>(s.heap,s.gens,s.drawn,s.toks))=some (hT P,#[],{},1201):=⟨⟩
theorem YF{A B C D:Type}{a a':A}{b b':B}{c c':C}{d d':D}(h:(a,b,c,d)=(a',b',c',d')):a=a'/\b=b'/\c=c'/\d=d':=by
 cases h;exact⟨rfl,rfl,rfl,rfl⟩
theorem run(w:World)(os:OsState):topRun treeTable R.row.prog w 11 (some (.ref 6)) 20000 {heap:=boot_heap w.params,gens:=#[],drawn:=boot_drawn,toks:=boot_toks,os:=os} (topStub R.row.prog)=some {heap:=hT w.params,gens:=#[],drawn:={},toks:=1201,os:=os}:=by
 have h:=runC w.params
 cases e:sT w.params with
 |none=>rw[e] at h;cases h
 |some s=>
  rw[e] at h
  obtain⟨heap,gens,drawn,toks,os0⟩:=s
  have h':some (heap,gens,drawn,toks)=some (hT w.params,(#[]:Array GenState),({}:Drawn),1201):=h
  obtain⟨rfl,rfl,rfl,rfl⟩:=YF (Option.some.inj h')
  exact Ff (w:=w) (os:=os) ((Fp _ _ _).symm.trans e)
theorem XZ(w:World)(os:OsState):(staticsOk (importedModules R.row.prog.main.body) (boot_heap w.params) (hT w.params)&&namesBound R.row.prog (hT w.params)&&gensDone {heap:=hT w.params,gens:=#[],drawn:={},toks:=1201,os:=os}&&laidKept (boot_heap w.params) (hT w.params))=true:=⟨⟩
theorem VL(w:World)(os:OsState):seen (List.map (fun x=>x.name) (recsOf V)) (ownsOf V) [] {heap:=hT w.params,drawn:={},toks:=1201,os:=os} = expectedOf V:=⟨⟩
theorem UH(w:World)(os:OsState):(hT w.params).bltView=bltViewBooted:=⟨⟩
theorem VI(w:World)(os:OsState):((hT w.params).keysOk (looseW V LO) (List.map (fun x=>x.name) (recsOf V)) (List.map (fun x=>x.fst) (litsOf V)) (List.map (fun x=>x.name) (clssOf V (looseW V LO)))&&(hT w.params).accountedOkI (importedModules R.row.prog.main.body)&&(hT w.params).isNs mainGlobals&&(hT w.params).isNs builtinsNs&&tablesOk V (hT w.params)&&Xt {heap:=hT w.params,gens:=#[],drawn:={},toks:=1201,os:=os}&&(if true=true then (#[]:Array GenState).size==0 else !leftWithCleanup (#[]:Array GenState)))=true:=⟨⟩
theorem VC(w:World)(os:OsState):tabsOk V {heap:=hT w.params,gens:=#[],drawn:={},toks:=1201,os:=os} = true:=⟨⟩
theorem Uy(w:World)(os:OsState):pinSeenD V (drecsOf V) {heap:=hT w.params,gens:=#[],drawn:={},toks:=1201,os:=os} = pinGoodD (drecsOf V):=⟨⟩
theorem VF(w:World)(os:OsState):plainSeenE V (looseW V LO) {heap:=hT w.params,gens:=#[],drawn:={},toks:=1201,os:=os} = plainGoodE V (looseW V LO):=⟨⟩
theorem UN(w:World)(os:OsState):plainSeenD V LO {heap:=hT w.params,gens:=#[],drawn:={},toks:=1201,os:=os} = plainGoodD V LO:=⟨⟩
theorem Wm(w:World)(os:OsState):wideSeen V {heap:=hT w.params,gens:=#[],drawn:={},toks:=1201,os:=os} = wideGood V:=⟨⟩
theorem U1(w:World)(os:OsState):clsSeenW V LO {heap:=hT w.params,gens:=#[],drawn:={},toks:=1201,os:=os} = clsGoodW V LO:=⟨⟩
theorem W5{A B C D E F G H I:Type}{a a':A}{b b':B}{c c':C}{d d':D}{e e':E}{f f':F}{g g':G}{h h':H}{i i':I}(h0:a=a')(h1:b=b')(h2:c=c')(h3:d=d')(h4:e=e')(h5:f=f')(h6:g=g')(h7:h=h')(h8:i=i'):(a,b,c,d,e,f,g,h,i)=(a',b',c',d',e',f',g',h',i'):=by
 rw[h0,h1,h2,h3,h4,h5,h6,h7,h8]
theorem XA(w:World)(os:OsState):openSeen V LO (importedModules R.row.prog.main.body) Xt true {heap:=hT w.params,gens:=#[],drawn:={},toks:=1201,os:=os} = openGood V LO:=W5 (VL w os) (UH w os) (VI w os) (VC w os) (Uy w os) (VF w os) (UN w os) (Wm w os) (U1 w os)
theorem WS(w:World)(os:OsState):HK.obs {heap:=hT w.params,gens:=#[],drawn:={},toks:=1201,os:=os} = HK.val w:=⟨⟩
theorem seen(w:World):(fun os=>(staticsOk (importedModules R.row.prog.main.body) (boot_heap w.params) (hT w.params)&&namesBound R.row.prog (hT w.params)&&gensDone {heap:=hT w.params,gens:=#[],drawn:={},toks:=1201,os:=os}&&laidKept (boot_heap w.params) (hT w.params),
  openSeen V LO (importedModules R.row.prog.main.body) Xt true {heap:=hT w.params,gens:=#[],drawn:={},toks:=1201,os:=os},HK.obs {heap:=hT w.params,gens:=#[],drawn:={},toks:=1201,os:=os}))=fun _:OsState=>(true,openGood V LO,HK.val w):=
 funext fun os=>Prod.ext (XZ w os) (Prod.ext (XA w os) (WS w os))
theorem lkb{a b:Bool}(x:a=true)(y:b=true):(a&&b)=true:=by rw[x,y];rfl
theorem wsA:(sreFenced R.row.prog.main&&((moduleNames R.row.prog.main.body).isEmpty || lookedIntoSs (moduleNames R.row.prog.main.body) R.row.prog.main.body))=true:=⟨⟩
theorem wsB:namesResolve R.row.prog=true:=⟨⟩
theorem wsC:R.row.prog.boundNames.all (fun n=>!worldNames.contains n)=true:=⟨⟩
theorem wsD:noRoadLSs {strict:=!(importedModules R.row.prog.main.body).all cThrough.contains,foot:=none,bare:=(["vars","dir","locals"]:List Str).filter (readsOut R.row.prog R.row.prog.main.body)} R.row.prog.main.body=true:=⟨⟩
theorem wsE:(namesMeet R.row.prog R.row.prog.main.body fun _ n=>attrL n)=true:=⟨⟩
theorem wsF:looksOpen R.row.prog=true:=lkb (lkb (lkb (lkb wsA wsB) wsC) wsD) wsE
theorem wsG:R.row.wellSaid=true:=by
 unfold OpenRow.wellSaid OpenRow.partSaid
 rw[wsF]
 kernel_rfl
theorem wsH:noClassBlock R.prog R.footing=true:=⟨⟩
theorem wsI:noRoadLSs {strict:=true,foot:=some R.bound',writes:=R.writes,may:=R.may} R.footing=true:=⟨⟩
theorem wsJ:R.namesIt=true:=⟨⟩
theorem wsK:R.bound'.all (fun n=>!builtinNamed n || R.about==[n] || !R.reads n)=true:=⟨⟩
theorem wsL:namesMeet R.prog R.footing (fun sc n=>(!(["type","isinstance","issubclass","getattr","hasattr"]:List Str).contains n || sc.names.lookup n==some .globalImplicit)&&(R.may != some n || sc.kind==.module || sc.names.lookup n==some .globalImplicit))=true:=⟨⟩
theorem wsM:namesMeet R.prog R.above (fun _ n=>!R.own.contains n)=true:=⟨⟩
theorem wsN:(namesMeet R.prog R.footing fun sc n=>sc.kind==.module || sc.names.lookup n != some .globalExplicit)=true:=⟨⟩
theorem ws:R.wellSaid=true:=by
 unfold OpenLaw.wellSaid
 rw[wsG,wsH,wsI,wsJ,wsK,wsL,wsM,wsN]
 kernel_rfl
theorem UC(P:Params):FQ (K P) "is_whole" nz 192 191 415 mz0/\FQ (K P) "common_divisor" eu 199 198 415 mz0/\FQ (K P) "is_number" jN 213 212 415 mz0/\FQ (K P) "divisor_of_all" eM 220 219 415 mz0/\FQ (K P) "number" sJ 227 226 415 mz0/\FQ (K P) "plus" BB 241 240 415 mz0/\FQ (K P) "times" xA 255 254 415 mz0/\FQ (K P) "contrary" mn 269 268 415 mz0/\FQ (K P) "sign_of" pQ 276 275 415 mz0/\FQ (K P) "sign_of_parts" fu 283 282 415 mz0/\FQ (K P) "is_above" nj 290 289 415 mz0/\FQ (K P) "is_above_nought" dX 297 296 415 mz0/\FQ (K P) "must_be_above_nought" cM 304 303 415 mz0/\FQ (K P) "bounds_of" jX 318 317 584 mz1:=
 by (repeat' apply And.intro)<;>first|kernel_rfl|decide
theorem VN(P:Params):FQ (K P) "is_kinds" lX 323 322 584 mz1/\FQ (K P) "must_be_kinds" fv 330 329 584 mz1/\FQ (K P) "is_plan" pW 337 336 615 mz2/\FQ (K P) "has_form" mP 344 343 615 mz2/\FQ (K P) "is_count" nF 351 350 615 mz2/\FQ (K P) "parts_of" ml 358 357 615 mz2/\FQ (K P) "must_be_plan" gj 365 364 615 mz2/\FQ (K P) "shape_of" lY 372 371 615 mz2/\FQ (K P) "mate_shape" ir 377 376 615 mz2/\FQ (K P) "made_of" pU 382 381 615 mz2/\FQ (K P) "sum_of" tf 389 388 615 mz2/\FQ (K P) "tiles_in" mi 394 393 615 mz2/\FQ (K P) "tile_at" pV 401 400 706 mz3/\FQ (K P) "must_be_spot" fZ 408 407 706 mz3:=
 by (repeat' apply And.intro)<;>first|kernel_rfl|decide
theorem Va(P:Params):FQ (K P) "begins_at" jR 415 414 706 mz3/\FQ (K P) "laid_out" nA 488 487 706 mz3/\FQ (K P) "_law_bag" nB 502 501 892 mz4/\FQ (K P) "_law_take" jL 509 508 892 mz4/\FQ (K P) "_law_is_whole" fq 516 515 892 mz4/\FQ (K P) "_law_shared" gW 523 522 892 mz4/\FQ (K P) "_law_low" l4 530 529 892 mz4/\FQ (K P) "_law_is_number" eJ 535 534 892 mz4/\FQ (K P) "_law_plus" jV 542 541 892 mz4/\FQ (K P) "_law_minus" iq 549 548 892 mz4/\FQ (K P) "_law_times" iJ 556 555 892 mz4/\FQ (K P) "_law_contrary" fj 563 562 892 mz4/\FQ (K P) "_law_sign" jS 570 569 892 mz4/\FQ (K P) "_law_root" jZ 575 574 892 mz4:=
 by (repeat' apply And.intro)<;>first|kernel_rfl|decide
theorem UY(P:Params):FQ (K P) "_law_number" gU 582 581 892 mz4/\FQ (K P) "_law_above" iw 589 588 892 mz4/\FQ (K P) "_law_odd" ny 596 595 892 mz4/\FQ (K P) "_law_refusal" gc 601 600 892 mz4/\FQ (K P) "_law_kinds" iH 608 607 892 mz4/\FQ (K P) "_law_bad_above" eE 615 614 892 mz4/\FQ (K P) "_law_bad_kinds" eC 622 621 892 mz4/\FQ (K P) "_law_grid_size" eL 629 628 892 mz4/\FQ (K P) "_law_plan" jP 634 633 892 mz4/\FQ (K P) "_law_sum" lR 641 640 892 mz4/\FQ (K P) "_law_shape" iC 646 645 892 mz4/\FQ (K P) "_law_plans_in" fm 651 650 892 mz4/\FQ (K P) "_law_is_a_plan" eo 658 657 892 mz4/\FQ (K P) "_law_part_of" gr 665 664 892 mz4:=
 by (repeat' apply And.intro)<;>first|kernel_rfl|decide
theorem Vr(P:Params):FQ (K P) "_law_swapped" gh 672 671 892 mz4/\FQ (K P) "_law_bent_plan" eG 679 678 892 mz4/\FQ (K P) "_law_none_plan" eI 686 685 892 mz4/\FQ (K P) "_law_few_figures" dG 693 692 892 mz4/\FQ (K P) "_law_bad_spot" fk 700 699 892 mz4/\FQ (K P) "_law_bad_odd" gk 707 706 892 mz4/\FQ (K P) "_law_are_refused" dF 712 711 892 mz4/\FQ (K P) "law" xT 719 718 892 mz4/\nsIn (K P) mainGlobals "isinstance"=some none/\nsIn (K P) mainGlobals "int"=some none/\nsIn (K P) mainGlobals "bool"=some none/\nsIn (K P) mainGlobals "abs"=some none/\nsIn (K P) mainGlobals "tuple"=some none/\nsIn (K P) mainGlobals "len"=some none:=
 by (repeat' apply And.intro)<;>first|kernel_rfl|decide
theorem Wj(P:Params):nsIn (K P) mainGlobals "all"=some none/\nsIn (K P) mainGlobals "list"=some none/\nsIn (K P) mainGlobals "sum"=some none/\nsIn (K P) mainGlobals "range"=some none/\nsIn (K P) mainGlobals "ValueError"=some none/\nsIn (K P) mainGlobals "min"=some none/\nsIn (K P) mainGlobals "max"=some none/\nsIn (K P) mainGlobals "MOST_KINDS"=some (some (.int 3 588))/\nsIn (K P) mainGlobals "MOST_WITHIN"=some (some (.int 12 617))/\nsIn (K P) mainGlobals "MOST_PLANS"=some (some (.int 60 619))/\nsIn (K P) mainGlobals "LEAST_PARTS"=some (some (.int 2 621))/\nsIn (K P) mainGlobals "MOST_PARTS"=some (some (.int 8 623))/\nsIn (K P) mainGlobals "MOST_TILES"=some (some (.int 60 586))/\(nsIn (K P) mainGlobals "NOUGHT"=some (some (.ref 184))/\(K P).lookup 184=some ⟨.type "tuple",none,.seq #[.int 0 417,.int 0 418,.int 1 419] 0,#[]⟩):=
 by (repeat' apply And.intro)<;>first|kernel_rfl|decide
theorem U5(P:Params):(nsIn (K P) mainGlobals "ONE"=some (some (.ref 185))/\(K P).lookup 185=some ⟨.type "tuple",none,.seq #[.int 1 421,.int 0 422,.int 1 423] 0,#[]⟩)/\nsIn (K P) mainGlobals "FloorError"=some (some (.ref 24))/\nsIn (K P) mainGlobals "NoRoot"=some (some (.ref 37))/\nsIn (K P) mainGlobals "NoNumber"=some (some (.ref 49))/\nsIn (K P) mainGlobals "NoLaying"=some (some (.ref 61))/\nsIn (K P) mainGlobals "NoTile"=some (some (.ref 73))/\nsIn (K P) mainGlobals "NoFit"=some (some (.ref 85))/\nsIn (K P) mainGlobals "NoKinds"=some (some (.ref 97))/\nsIn (K P) mainGlobals "NoPlan"=some (some (.ref 109))/\nsIn (K P) mainGlobals "NoSpot"=some (some (.ref 121))/\nsIn (K P) mainGlobals "NoNet"=some (some (.ref 133))/\nsIn (K P) mainGlobals "NoText"=some (some (.ref 145))/\nsIn (K P) mainGlobals "NoSaying"=some (some (.ref 157))/\nsIn (K P) mainGlobals "NoName"=some (some (.ref 169)):=
 by (repeat' apply And.intro)<;>first|kernel_rfl|decide
theorem UD(P:Params):nsIn (K P) mainGlobals "TooMany"=some (some (.ref 181))/\excIn (K P) (49) bmV "ValueError.__new__"=true/\exmOne (K P) (.ref 49) (.ref 24)=some true/\findIn (K P) (.ref 49) "__getattribute__"=some (some (.builtin "BaseException.__getattribute__"))/\findIn (K P) (.ref 49) "__getattr__"=some none/\findIn (K P) (.ref 49) "__class__"=some (some (.builtin "object.__class__"))/\mroIn (K P) 49 (.type "object")=some true/\mroIn (K P) 49 (.type "BaseException")=some true/\(clsIn (K P) 49).isSome=true/\kitOne (K P) (.ref 49) (.ref 37)=some false/\kitOne (K P) (.ref 49) (.ref 49)=some true/\kitOne (K P) (.ref 49) (.ref 61)=some false/\kitOne (K P) (.ref 49) (.ref 73)=some false/\kitOne (K P) (.ref 49) (.ref 85)=some false:=
 by (repeat' apply And.intro)<;>first|kernel_rfl|decide
theorem Vh(P:Params):kitOne (K P) (.ref 49) (.ref 97)=some false/\kitOne (K P) (.ref 49) (.ref 109)=some false/\kitOne (K P) (.ref 49) (.ref 121)=some false/\kitOne (K P) (.ref 49) (.ref 133)=some false/\kitOne (K P) (.ref 49) (.ref 145)=some false/\kitOne (K P) (.ref 49) (.ref 157)=some false/\kitOne (K P) (.ref 49) (.ref 169)=some false/\kitOne (K P) (.ref 49) (.ref 181)=some false/\kitOne (K P) (.ref 49) (.type "ValueError")=some true/\excIn (K P) (97) bmV "ValueError.__new__"=true/\exmOne (K P) (.ref 97) (.ref 24)=some true/\findIn (K P) (.ref 97) "__getattribute__"=some (some (.builtin "BaseException.__getattribute__"))/\findIn (K P) (.ref 97) "__getattr__"=some none/\findIn (K P) (.ref 97) "__class__"=some (some (.builtin "object.__class__")):=
 by (repeat' apply And.intro)<;>first|kernel_rfl|decide
theorem V6(P:Params):mroIn (K P) 97 (.type "object")=some true/\mroIn (K P) 97 (.type "BaseException")=some true/\(clsIn (K P) 97).isSome=true/\kitOne (K P) (.ref 97) (.ref 37)=some false/\kitOne (K P) (.ref 97) (.ref 49)=some false/\kitOne (K P) (.ref 97) (.ref 61)=some false/\kitOne (K P) (.ref 97) (.ref 73)=some false/\kitOne (K P) (.ref 97) (.ref 85)=some false/\kitOne (K P) (.ref 97) (.ref 97)=some true/\kitOne (K P) (.ref 97) (.ref 109)=some false/\kitOne (K P) (.ref 97) (.ref 121)=some false/\kitOne (K P) (.ref 97) (.ref 133)=some false/\kitOne (K P) (.ref 97) (.ref 145)=some false/\kitOne (K P) (.ref 97) (.ref 157)=some false:=
 by (repeat' apply And.intro)<;>first|kernel_rfl|decide
theorem SK(P:Params):kitOne (K P) (.ref 97) (.ref 169)=some false/\kitOne (K P) (.ref 97) (.ref 181)=some false/\kitOne (K P) (.ref 97) (.type "ValueError")=some true/\excIn (K P) (109) bmV "ValueError.__new__"=true/\exmOne (K P) (.ref 109) (.ref 24)=some true/\findIn (K P) (.ref 109) "__getattribute__"=some (some (.builtin "BaseException.__getattribute__"))/\findIn (K P) (.ref 109) "__getattr__"=some none/\findIn (K P) (.ref 109) "__class__"=some (some (.builtin "object.__class__"))/\mroIn (K P) 109 (.type "object")=some true/\mroIn (K P) 109 (.type "BaseException")=some true/\(clsIn (K P) 109).isSome=true/\kitOne (K P) (.ref 109) (.ref 37)=some false/\kitOne (K P) (.ref 109) (.ref 49)=some false/\kitOne (K P) (.ref 109) (.ref 61)=some false:=
 by (repeat' apply And.intro)<;>first|kernel_rfl|decide
theorem Sq(P:Params):kitOne (K P) (.ref 109) (.ref 73)=some false/\kitOne (K P) (.ref 109) (.ref 85)=some false/\kitOne (K P) (.ref 109) (.ref 97)=some false/\kitOne (K P) (.ref 109) (.ref 109)=some true/\kitOne (K P) (.ref 109) (.ref 121)=some false/\kitOne (K P) (.ref 109) (.ref 133)=some false/\kitOne (K P) (.ref 109) (.ref 145)=some false/\kitOne (K P) (.ref 109) (.ref 157)=some false/\kitOne (K P) (.ref 109) (.ref 169)=some false/\kitOne (K P) (.ref 109) (.ref 181)=some false/\kitOne (K P) (.ref 109) (.type "ValueError")=some true/\excIn (K P) (121) bmV "ValueError.__new__"=true/\exmOne (K P) (.ref 121) (.ref 24)=some true/\findIn (K P) (.ref 121) "__getattribute__"=some (some (.builtin "BaseException.__getattribute__")):=
 by (repeat' apply And.intro)<;>first|kernel_rfl|decide
theorem Tj(P:Params):findIn (K P) (.ref 121) "__getattr__"=some none/\findIn (K P) (.ref 121) "__class__"=some (some (.builtin "object.__class__"))/\mroIn (K P) 121 (.type "object")=some true/\mroIn (K P) 121 (.type "BaseException")=some true/\(clsIn (K P) 121).isSome=true/\kitOne (K P) (.ref 121) (.ref 37)=some false/\kitOne (K P) (.ref 121) (.ref 49)=some false/\kitOne (K P) (.ref 121) (.ref 61)=some false/\kitOne (K P) (.ref 121) (.ref 73)=some false/\kitOne (K P) (.ref 121) (.ref 85)=some false/\kitOne (K P) (.ref 121) (.ref 97)=some false/\kitOne (K P) (.ref 121) (.ref 109)=some false/\kitOne (K P) (.ref 121) (.ref 121)=some true/\kitOne (K P) (.ref 121) (.ref 133)=some false:=
 by (repeat' apply And.intro)<;>first|kernel_rfl|decide
theorem Tn(P:Params):kitOne (K P) (.ref 121) (.ref 145)=some false/\kitOne (K P) (.ref 121) (.ref 157)=some false/\kitOne (K P) (.ref 121) (.ref 169)=some false/\kitOne (K P) (.ref 121) (.ref 181)=some false/\kitOne (K P) (.ref 121) (.type "ValueError")=some true/\excIn (K P) (181) bmV "ValueError.__new__"=true/\exmOne (K P) (.ref 181) (.ref 24)=some true/\findIn (K P) (.ref 181) "__getattribute__"=some (some (.builtin "BaseException.__getattribute__"))/\findIn (K P) (.ref 181) "__getattr__"=some none/\findIn (K P) (.ref 181) "__class__"=some (some (.builtin "object.__class__"))/\mroIn (K P) 181 (.type "object")=some true/\mroIn (K P) 181 (.type "BaseException")=some true/\(clsIn (K P) 181).isSome=true/\kitOne (K P) (.ref 181) (.ref 37)=some false:=
 by (repeat' apply And.intro)<;>first|kernel_rfl|decide
theorem TB(P:Params):kitOne (K P) (.ref 181) (.ref 49)=some false/\kitOne (K P) (.ref 181) (.ref 61)=some false/\kitOne (K P) (.ref 181) (.ref 73)=some false/\kitOne (K P) (.ref 181) (.ref 85)=some false/\kitOne (K P) (.ref 181) (.ref 97)=some false/\kitOne (K P) (.ref 181) (.ref 109)=some false/\kitOne (K P) (.ref 181) (.ref 121)=some false/\kitOne (K P) (.ref 181) (.ref 133)=some false/\kitOne (K P) (.ref 181) (.ref 145)=some false/\kitOne (K P) (.ref 181) (.ref 157)=some false/\kitOne (K P) (.ref 181) (.ref 169)=some false/\kitOne (K P) (.ref 181) (.ref 181)=some true/\kitOne (K P) (.ref 181) (.type "ValueError")=some true/\(nsIn (K P) mainGlobals "__builtins__"=some (some (.ref 4))/\(4:Addr)≠builtinsNs/\(K P).lookup 4=some ⟨.type "module",some builtinsNs,.plain,#[]⟩):=
 by (repeat' apply And.intro)<;>first|kernel_rfl|decide
theorem Mf(P:Params):((K P).filterMap fun p=>cX p.2)=[(709,("_law_are_refused":Str)),(714,("law":Str))]/\((K P).lookup 711).bind cX=some (709,("_law_are_refused":Str))/\((K P).lookup 718).bind cX=some (714,("law":Str))/\(KF P).lookup 709=some (tabObj #[])/\(KF P).lookup 714=some (tabObj #[])/\(K P).lookup 709=none/\(K P).lookup 714=none:=⟨⟨⟩,⟨⟩,⟨⟩,⟨⟩,⟨⟩,⟨⟩,⟨⟩⟩
theorem RE(P:Params):((K P).filterMap fun p=>cX p.2)=[(709,("_law_are_refused":Str)),(714,("law":Str))]:=(Mf P).1
theorem lI(P:Params):((K P).lookup 711).bind cX=some (709,("_law_are_refused":Str)):=(Mf P).2.1
theorem vB{q2:Str}(h:((709:Addr),q2)∈([(709,("_law_are_refused":Str)),(714,("law":Str))]:List (Addr×Str))):q2 = "_law_are_refused":=by simpa using h
theorem RP(P:Params):((K P).lookup 718).bind cX=some (714,("law":Str)):=(Mf P).2.2.1
theorem WN{q2:Str}(h:((714:Addr),q2)∈([(709,("_law_are_refused":Str)),(714,("law":Str))]:List (Addr×Str))):q2 = "law":=by simpa using h
theorem n9(P:Params):(KF P).lookup 709=some (tabObj #[])/\(K P).lookup 709=none:=⟨(Mf P).2.2.2.1,(Mf P).2.2.2.2.2.1⟩
theorem Oj(P:Params):(KF P).lookup 714=some (tabObj #[])/\(K P).lookup 714=none:=⟨(Mf P).2.2.2.2.1,(Mf P).2.2.2.2.2.2⟩
theorem left:LeftO R.row.prog V LO Xt HK.obs HK.val 20000:=
 LeftO.of_pieces (H₀:=boot_heap) (H₁:=hT) (gs₀:=#[]) (gs₁:=#[]) (d₀:=boot_drawn) (d₁:={}) (k₀:=boot_toks) (k₁:=1201) (m₀:=11) (ann:=some (.ref 6)) (M:=20000)
  (boot_open ⟨⟩ ⟨⟩ (fun s=>⟨⟩)) (fun w=>⟨⟩) run ⟨⟩ seen
end K28.H
namespace L2
open PySem PySem.Spec PyProof.Rows
noncomputable def nI(A:Around)(h:Heap):Prop:=A.handled=none\/∃(e:Addr) (oe:Obj) (vs:Array Value),A.handled=some (.ref e)/\h.get? e=some oe/\oe.data = .fields vs/\vs[2]? = some .none
theorem GX:entryFor table "proto.unchain"=some Builtin.«proto.unchain»:=entryFor_of_tree ⟨⟩
section
variable {prog:Program}{w:World}{A:Around}{E:Value->Shared->Prop}{s:Shared}
theorem Iz{x e:Addr}{oe:Obj}{vs:Array Value}{Q:Value->Shared->Prop}(he:s.heap.get? e=some oe)(hd:oe.data = .fields vs)(h2:vs[2]? = some .none)(h:Q .none s) :
  wpAny (model prog w) A (runValue (.builtin "proto.unchain" ⟨[.ref x,.ref e,.ref e,.bool false],[]⟩)) Q E s:=by
 refine wpAny_runValue (codeAny_builtin GX ?_)
 unfold Builtin.«proto.unchain»
 dsimp only
 refine wpAny_bind (wpAny_field he hd h2 ?_)
 rw[if_pos (by rfl)]
 exact wpAny_pure h
theorem DN{α:Type}{a:Addr}{oa:Obj}{ws:Array Value}{Q:α->Shared->Prop}(q:nI A s.heap)(ha:s.heap.get? a=some oa)(hda:oa.data = .fields ws)(hz:2<ws.size)
  (hnew:∀e oe,A.handled=some (.ref e)->s.heap.get? e=some oe->e≠a)
  (h:∀h',Heap.ExtBut a s.heap h'->(∃o',h'.get? a=some o'/\o'.cls=oa.cls)->E (.ref a) {s with heap:=h'}):wpAny (model prog w) A (raiseNew (.ref a):Sem α) Q E s:=by
 unfold raiseNew
 refine wpAny_bind (wpAny_handled ?_)
 rcases q with q|⟨e,oe,vs,q,he,hd,h2⟩
 ·rw[q]
  exact wpAny_bind (wpAny_pure (wpAny_throw (h s.heap (fun b o _ z=>z) ⟨oa,ha,rfl⟩)))
 ·rw[q]
  have ne:e≠a:=hnew e oe q he
  dsimp only
  rw[if_pos (by simp[ne])]
  refine wpAny_bind (wpAny_holding (Iz he hd h2 ?_))
  refine wpAny_bind ?_
  refine wpAny_setField ha hda hz (wpAny_throw ?_)
  have hd':=Obj.data_mapFields hda (·.setIfInBounds 2 (Value.ref e))
  exact h _ (Heap.SameBut.update ..).extBut ⟨_,Heap.get?_update_self _ ha (Obj.isFreed_of_fields hd'),Obj.cls_mapFields ..⟩
theorem EX{it:Addr}{α:Type}{h0:Heap}{Q:α->Shared->Prop}(q:nI A s.heap)(k:Heap.ExtBut it h0 s.heap)(kl:∀e oe,A.handled=some (.ref e)->s.heap.get? e=some oe->True)
  (h:∀h' a,Heap.ExtBut it h0 h'->(∃o',h'.get? a=some o'/\o'.cls = .type "StopIteration")->E (.ref a) {s with heap:=h'}):wpAny (model prog w) A (newExc (.type "StopIteration") []>>=fun e=>(raiseNew e:Sem α)) Q E s:=by
 refine wpAny_bind ?_;simp only[newExc,newTuple]
 refine wpAny_bind (wpAny_newObj_type ?_ (by size_fits));refine wpAny_bind (m:=firstArgMember _ _) (wpAny_of_eq (a:=Value.none) (by first|rfl|(simp only[firstArgMember];rfl)) ?_);refine wpAny_newObj_type ?_ (by size_fits)
 have q':∀o1 o2:Obj,nI A ((s.heap.push o1).push o2):=fun o1 o2=>by
  rcases q with q|⟨e,oe,vs,q,he,r⟩
  ·exact .inl q
  ·exact .inr ⟨e,oe,vs,q,Heap.get?_push_of_some _ (Heap.get?_push_of_some _ he),r⟩
 refine DN (q' _ _) (Heap.get?_push_size _ rfl) rfl (by rw[Array.size_append];exact lt_of_lt_of_le (by decide:2<6) (Nat.le_add_right _ _)) (fun e oe hq he z=>?_) fun h' hx ⟨o',ho',hc'⟩=>h h' _ (fun b o hb e=>hx b o ?_ (Heap.get?_push_of_some _ (Heap.get?_push_of_some _ (k b o hb e)))) ⟨o',ho',hc'⟩
 ·rcases q with q|⟨e1,oe1,vs,q,he1,r⟩
  ·rw[q] at hq;cases hq
  ·rw[q] at hq;cases hq
   exact absurd (Heap.lt_size he1) (by rw[z];simp)
 ·exact ne_of_lt (lt_of_lt_of_le (Heap.lt_size (k b o hb e)) (by simp))
theorem Aj{it:Addr}{o:Obj}{ws:Array Value}{f:Array Value->Array Value}(q:nI A s.heap)(ho:s.heap.get? it=some o)(hd:o.data = .fields ws)(hn:∀e,A.handled=some (.ref e)->e≠it):nI A (s.heap.update it (Obj.mapFields f)):=by
 rcases q with q|⟨e,oe,vs,q,he,r⟩
 ·exact .inl q
 ·exact .inr ⟨e,oe,vs,q,by rw[Heap.get?_update_other _ _ (Ne.symm (hn e q))];exact he,r⟩
theorem GL{it l:Addr}{i:Nat}{items}{Q:Option Value->Shared->Prop}(q:nI A s.heap)(hn:∀e,A.handled=some (.ref e)->e≠it)(hit:s.heap.IsListIter it l i)(hl:s.heap.IsList l items)(hx:items[i]? = none)
  (hQ:∀h',Heap.ExtBut it s.heap h'->Q none {s with heap:=h'}):wpAny (model prog w) A (pyNext (.ref it)) Q E s:=by
 obtain⟨o,ho,hc,hd⟩:=id hit
 obtain⟨ol,hol,_,nl,hdl⟩:=hl;unfold pyNext
 refine wpAny_bind (wpAny_attempt (wpAny_callSpecial?_slot (name:=Str.ofString "__next__") hit.typeIs slot_listiter_next (wpAny_call_entry slot_listiter_next hit.typeIs entry_listiter_next ?_ (args_listiter_next _))))
 show wpAny _ _ (field (.ref it) 0>>=_) _ _ s;refine wpAny_bind (wpAny_field ho hd (x:=.ref l) rfl ?_)
 show wpAny _ _ (if (Value.ref l==Value.none)=true then _ else _) _ _ s;rw[if_neg (show ¬ ((Value.ref l==Value.none)=true) from Bool.false_ne_true)]
 show wpAny _ _ (field (.ref it) 1>>=_) _ _ s;refine wpAny_bind (wpAny_field ho hd (x:=.int i 0) rfl ?_)
 show wpAny _ _ (seqItems? (.ref l)>>=_) _ _ s;refine wpAny_bind (wpAny_seqItems hol hdl ?_);simp only[Int.toNat_natCast,hx]
 refine wpAny_bind (wpAny_rule (wpAny_bind (wpAny_setField ho hd (by simp) ?_)))
 refine EX (it:=it) (h0:=s.heap) (A:=A.in1) (Aj (A:=A.in1) q ho hd hn) (Heap.SameBut.update ..).extBut (fun _ _ _ _=>trivial) fun h' a hx' ⟨o',ho',hc'⟩=>?_
 refine wpAny_bind (wpAny_isInstance (T:="StopIteration") (b:=true) ⟨_,ho',hc'⟩ isSubtype_stop ?_);exact wpAny_pure (hQ _ hx')
theorem Ah{it t:Addr}{i:Nat}{items}{Q:Option Value->Shared->Prop}(q:nI A s.heap)(hn:∀e,A.handled=some (.ref e)->e≠it)(hit:IsTupIter s.heap it t i)(ht:IsTup s.heap t items)(hx:items[i]? = none)
  (hQ:∀h',Heap.ExtBut it s.heap h'->Q none {s with heap:=h'}):wpAny (model prog w) A (pyNext (.ref it)) Q E s:=by
 obtain⟨o,ho,hc,hd⟩:=id hit
 obtain⟨ol,hol,_,nl,hdl⟩:=ht;unfold pyNext
 refine wpAny_bind (wpAny_attempt (wpAny_callSpecial?_slot (name:=Str.ofString "__next__") hit.typeIs slot_tupleiter_next (wpAny_call_entry slot_tupleiter_next hit.typeIs entry_tupleiter_next ?_ (args_tupleiter_next _))))
 show wpAny _ _ (field (.ref it) 0>>=_) _ _ s;refine wpAny_bind (wpAny_field ho hd (x:=.ref t) rfl ?_)
 show wpAny _ _ (if (Value.ref t==Value.none)=true then _ else _) _ _ s;rw[if_neg (show ¬ ((Value.ref t==Value.none)=true) from Bool.false_ne_true)]
 show wpAny _ _ (field (.ref it) 1>>=_) _ _ s;refine wpAny_bind (wpAny_field ho hd (x:=.int i 0) rfl ?_)
 show wpAny _ _ (seqItems? (.ref t)>>=_) _ _ s;refine wpAny_bind (wpAny_seqItems hol hdl ?_);simp only[Int.toNat_natCast,hx]
 refine wpAny_bind (wpAny_rule (wpAny_bind (wpAny_setField ho hd (by simp) ?_)))
 refine EX (it:=it) (h0:=s.heap) (A:=A.in1) (Aj (A:=A.in1) q ho hd hn) (Heap.SameBut.update ..).extBut (fun _ _ _ _=>trivial) fun h' a hx' ⟨o',ho',hc'⟩=>?_
 refine wpAny_bind (wpAny_isInstance (T:="StopIteration") (b:=true) ⟨_,ho',hc'⟩ isSubtype_stop ?_);exact wpAny_pure (hQ _ hx')
theorem GK{env:Env}{elts:List Expr}{x1}{pos:Pos}{t:Addr}{items:Array Value}{Q:Unit->Shared->Prop}(q:nI A s.heap)(ht:IsTup s.heap t items)(hn:(assignEach elts env).length=items.size)
  (hstar:(assignEach elts env).findIdx? (·.1)=none) (h:∀h',Heap.ExtBut s.heap.objs.size s.heap h'->wpAny (model prog w) A (assignInOrder ((assignEach elts env).map (·.2)) items.toList) Q E {s with heap:=h'}) :
  wpAny (model prog w) A (assign (.Tuple elts x1 pos) env (.ref t)) Q E s:=by
 rw[assign_Tuple]
 refine wpAny_bind (wpAny_standAt ?_)
 unfold unpack;rw[hn,hstar]
 refine wpAny_bind (wpAny_holding ?_)
 have hlt:t≠s.heap.objs.size:=by obtain⟨o,ho,_⟩:=ht;exact ne_of_lt (Heap.lt_size ho)
 unfold unpackItems;refine wpAny_bind ?_
 unfold notIterableAtAll;refine wpAny_bind (wpAny_specialOf ht.typeIs slot_tuple_iter.lookup ?_);refine wpAny_pure ?_;simp only[false_eq_true,if_false]
 refine wpAny_bind (wpAny_holding (iter_tuple ht ?_))
 refine wpAny_bind (wpAny_holding (draw_tuple hlt items.size 0 _ _ ⟨_,Heap.get?_push_size _ rfl,rfl,rfl⟩ (ht.push _) ∅ fun ii tt po=>?_))
 rw[show List.take items.size (List.drop 0 items.toList)=items.toList from by rw[List.drop_zero];exact List.take_of_length_le (by simp),if_neg (by simp)]
 have fr:∀e,A.handled=some (.ref e)->e≠s.heap.objs.size:=fun e hq=>by
  rcases q with q|⟨e1,oe1,vs,q,he1,r⟩
  ·rw[q] at hq;cases hq
  ·rw[q] at hq;cases hq;exact ne_of_lt (Heap.lt_size he1)
 have q1:nI A ii:=by
  rcases q with q|⟨e,oe,vs,q,he,r⟩
  ·exact .inl q
  ·exact .inr ⟨e,oe,vs,q,po.extBut e oe (fr e q) (Heap.get?_push_of_some _ he),r⟩
 refine wpAny_bind (wpAny_holding (Ah q1 fr tt ((ht.push _).extBut po.extBut hlt) (by simp) fun rc wr=>?_));simp only[Option.isSome_none,false_eq_true,if_false]
 exact wpAny_pure (h rc fun b o hb e=>wr b o hb (po.extBut b o hb (Heap.get?_push_of_some _ e)))
end
end L2
namespace L2
open PySem PySem.Spec PyProof.Rows
abbrev Key:=Sum Int Str
def Ul:Key->Value->Bool
 |.inl k,v=>Value.isInt k v
 |.inr x,v=>Value.isStrOf x v
def YW(w:World):Key->Int
 |.inl k=>hashInt k
 |.inr x=>hashStr w x
theorem fG:∀{k:Key} {v:Value},Ul k v=true->(∃i t,k=Sum.inl i/\v=Value.int i t)\/(∃x t,k=Sum.inr x/\v=Value.str x t)
 |.inl i,v,h=>by
  obtain⟨t,e⟩:=Value.isInt_shape (k:=i) (v:=v) h
  exact .inl ⟨i,t,rfl,e⟩
 |.inr x,v,h=>by
  obtain⟨t,e⟩:=Value.isStrOf_shape (x:=x) (v:=v) h
  exact .inr ⟨x,t,rfl,e⟩
theorem Wf(a b:Int):decide ((Sum.inl a:Key)=Sum.inl b)=(a==b):=by
 by_cases e:a=b
 ·subst e;simp
 ·have h:¬ (Sum.inl a:Key)=Sum.inl b:=fun q=>e (Sum.inl.inj q)
  rw[decide_eq_false h]
  exact (beq_eq_false_iff_ne.mpr e).symm
theorem Vz(a b:Str):decide ((Sum.inr a:Key)=Sum.inr b)=decide (a=b):=by
 by_cases e:a=b
 ·subst e;simp
 ·have h:¬ (Sum.inr a:Key)=Sum.inr b:=fun q=>e (Sum.inr.inj q)
  rw[decide_eq_false h,decide_eq_false e]
theorem Wg(a:Int)(b:Str):decide ((Sum.inl a:Key)=Sum.inr b)=false:=decide_eq_false (fun q=>nomatch q)
theorem VT(a:Str)(b:Int):decide ((Sum.inr a:Key)=Sum.inl b)=false:=decide_eq_false (fun q=>nomatch q)
def JL(prog:Program)(w:World):PySem.KeyKind prog w Key where
 is:=Ul
 hash:=YW w
 inj:=fun v a b ha hb=>by
  rcases fG ha with ⟨i,t,rfl,rfl⟩|⟨x,t,rfl,rfl⟩
  ·rcases fG hb with ⟨j,u,rfl,e⟩|⟨y,u,rfl,e⟩
   ·injection e with e1 _;rw[e1]
   ·exact nomatch e
  ·rcases fG hb with ⟨j,u,rfl,e⟩|⟨y,u,rfl,e⟩
   ·exact nomatch e
   ·injection e with e1 _;rw[e1]
 byValue:=fun k v h=>by
  rcases fG h with ⟨i,t,rfl,rfl⟩|⟨x,t,rfl,rfl⟩<;>rfl
 pyHash:=fun hv h=>by
  rcases fG hv with ⟨i,t,rfl,rfl⟩|⟨x,t,rfl,rfl⟩
  ·exact wpAny_pyHash_int h
  ·exact wpAny_pyHash_str h
 eqBool:=fun hu hv h=>by
  rcases fG hu with ⟨i,t,rfl,rfl⟩|⟨x,t,rfl,rfl⟩
  ·rcases fG hv with ⟨j,u,rfl,rfl⟩|⟨y,u,rfl,rfl⟩
   ·rw[Wf] at h;exact wpAny_eqBool_int h
   ·rw[Wg] at h;exact SeqAt.EqAt.int_str i t y u _ _ _ _ h
  ·rcases fG hv with ⟨j,u,rfl,rfl⟩|⟨y,u,rfl,rfl⟩
   ·rw[VT] at h;exact SeqAt.EqAt.str_int x t j u _ _ _ _ h
   ·rw[Vz] at h;exact wpAny_eqBool_str h
 «strs»:=fun k x t v h=>by
  rcases fG h with ⟨i,u,rfl,e⟩|⟨y,u,rfl,e⟩
  ·exact nomatch e
  ·injection e with e1 _
   subst e1
   cases v<;>rfl
end L2
namespace L2
open PySem PySem.Spec PyProof.Rows
inductive V where
 |non|bl (b:Bool)|int (i:Int)|str (x:Str)|byt (b:Array UInt8)|flt (b:UInt64)|ref (a:Addr)|ty (n:String)
 deriving DecidableEq
def RelV:V->Value->Prop
 |.non,u=>u=Value.none
 |.bl b,u=>u=Value.bool b
 |.int i,u=>∃t,u=Value.int i t
 |.str x,u=>∃t,u=Value.str x t
 |.byt b,u=>∃t,u=Value.bytes b t
 |.flt b,u=>∃t,u=Value.float b t
 |.ref a,u=>u=Value.ref a
 |.ty n,u=>u=Value.type n
abbrev Vals:List V->List Value->Prop:=Paired RelV
theorem Vals.length{xs:List V}{us:List Value}(r:Vals xs us):xs.length=us.length:=Paired.length r
theorem Vals.get:∀{xs:List V} {us:List Value} {i:Nat} {x:V},Vals xs us->xs[i]? = some x->∃u,us[i]? = some u/\RelV x u
 |_,_,_,_,.nil,e=>by simp at e
 |_,_,0,_,.cons r _,e=>by simp at e;subst e;exact⟨_,rfl,r⟩
 |_,_,i+1,x,.cons _ t,e=>by
  obtain⟨u,h1,h2⟩:=Vals.get (i:=i) (x:=x) t (by simpa using e)
  exact⟨u,by simpa using h1,h2⟩
theorem Vals.set{x:V}{u:Value}(r:RelV x u):∀{xs:List V} {us:List Value} (i:Nat),Vals xs us->Vals (xs.set i x) (us.set i u)
 |_,_,_,.nil=>.nil
 |_,_,0,.cons _ t=>.cons r t
 |_,_,i+1,.cons q t=>.cons q (Vals.set r i t)
theorem Vals.append:∀{xs ys:List V} {us ws:List Value},Vals xs us->Vals ys ws->Vals (xs++ys) (us++ws)
 |_,_,_,_,.nil,s=>s
 |_,_,_,_,.cons r t,s=>.cons r (Vals.append t s)
theorem Vals.take:∀{xs:List V} {us:List Value} (n:Nat),Vals xs us->Vals (xs.take n) (us.take n)
 |_,_,0,_=>.nil
 |_,_,_+1,.nil=>.nil
 |_,_,n+1,.cons r t=>.cons r (Vals.take n t)
theorem Vals.drop:∀{xs:List V} {us:List Value} (n:Nat),Vals xs us->Vals (xs.drop n) (us.drop n)
 |_,_,0,r=>r
 |_,_,_+1,.nil=>.nil
 |_,_,n+1,.cons _ t=>Vals.drop n t
def XN:Option V->Option Value->Prop
 |some v,some u=>RelV v u
 |none,none=>True
 |_,_=>False
def KV{κ:Type}:List (κ×V)->List (κ×Value)->Prop:=Paired fun (p:κ×V) (q:κ×Value)=>p.1=q.1/\RelV p.2 q.2
def kV:Key->V
 |.inl i=>.int i
 |.inr x=>.str x
inductive HO where
  /-- a list -/
 |lst (xs:List V)
  /-- a tuple (never changes) -/
 |tup (xs:List V)
  /-- a dict whose keys are ints and texts; one whose keys are tuples of ints and texts (the empty one is both) -/
 |dK (kvs:List (Key×V))|dT (kvs:List (List Key×V))
  /-- a set of ints: its members, its size -/
 |set (S:Int->Bool) (n:Nat)
  /-- an instance of the class at C, its dict at dx, its attributes -/
 |ins (C dx:Addr) (fs:List (Str×V))
  /-- the dict of the instance at x -/
 |own (x:Addr)
  /-- the dict of an exception -/
 |xd (fs:List (Str×V))
  /-- a bound method, f of x -/
 |met (f x:Addr)
  /-- a range object lo, lo + 1, .. below hi -/
 |rng (lo hi:Int)
  /-- a thing that is known to the object (the script; a dict while a loop walks it): read, never written while it is so -/
 |frz (o:Obj) (u:HO)
  /-- a code object's table -/
 |tbl (ps:Array Value)
  /-- any other thing, by what is true of its one object (a def of one's own: SetO a S n := HO.ext fun h => ..) -/
 |ext (φ:Heap->Prop)
abbrev Hp:=Addr->Option HO
def upd(H:Hp)(a:Addr)(o:HO):Hp:=fun b=>if b=a then some o else H b
theorem d9{H:Hp}{a:Addr}{o:HO}:upd H a o a=some o:=by unfold upd;rw[if_pos rfl]
theorem cw{H:Hp}{a b:Addr}{o:HO}(h:b≠a):upd H a o b=H b:=by unfold upd;rw[if_neg h]
theorem bN{H:Hp}{a b:Addr}{o:HO}(h:H a=some o)(h':H b=none):a≠b:=by
 intro e;subst e;rw[h] at h';cases h'
section
variable (P:Program)(w:World)
def qo(H:Hp)(h:Heap)(a:Addr):HO->Prop
 |.lst xs=>xs.length<=sizeLine/\∃(its:List Value) (n:Nat),Vals xs its/\h.get? a=some {cls:=.type "list",data:=.seq its.toArray n}
 |.tup xs=>xs.length<=sizeLine/\∃its:List Value,Vals xs its/\IsTup h a its.toArray
 |.dK kvs=>kvs.length<=sizeLine/\(a==sysModules)=false/\∃vs,KV kvs vs/\h.DictOf (JL P w) a vs
 |.dT kvs=>kvs.length<=sizeLine/\(a==sysModules)=false/\∃xs:List (List Key×Addr×Value),
   Paired (fun (p:List Key×V) (q:List Key×Addr×Value)=>p.1=q.1/\H q.2.1=some (.tup (p.1.map kV))/\RelV p.2 q.2.2) kvs xs /\
   ∃o es ep,h.get? a=some o/\o.ExactDict/\o.data = .dict es ep/\es.toList=xs.map (entryOfKey (tupleKind (JL P w)))/\(xs.map (·.1)).Nodup
 |.set S n=>h.SetOf (intKind P w) a S n
 |.ins C dx fs=>H dx=some (.own a)/\fs.length<=1000/\dx≠a/\h.get? a=some (PySem.W.instObj C dx) /\
   ∃mA,h.Ns1 dx mA/\(∀f,XN (fs.lookup f) (mA f))/\PySem.Within mA (fs.map (·.1))
 |.own _=>∃o,h.get? a=some o
 |.xd fs=>∃mA,h.Ns1 a mA/\∀f,XN (fs.lookup f) (mA f)
 |.rng lo hi=>∃t u v,h.get? a=some {cls:=.type "range",data:=.fields #[.int lo t,.int hi u,.int 1 v]}
 |.frz o u=>h.get? a=some o/\qo H h a u
 |.tbl ps=>h.get? a=some {cls:=.none,data:=.fields ps}
 |.met f x=>h.get? a=some (PySem.W.methodObj (.ref f) (.ref x))
 |.ext φ=>φ h/\(∃o,h.get? a=some o)/\∀h1 h2:Heap,φ h1->(∀o,h1.get? a=some o->h2.get? a=some o)->φ h2
noncomputable def HOk(H:Hp)(h:Heap):Prop:=∀a o,H a=some o->qo P w H h a o
end
section
variable {P:Program}{w:World}{H H':Hp}{h h':Heap}{a:Addr}{o:HO}
theorem qo.lt(x:qo P w H h a o):a<h.objs.size:=by
 cases o with
 |lst xs=>obtain⟨_,_,_,_,e⟩:=x;exact Heap.lt_size e
 |tup xs=>obtain⟨_,_,_,p⟩:=x;exact p.lt
 |dK kvs=>obtain⟨_,_,_,_,o,_,_,e,_⟩:=x;exact Heap.lt_size e
 |dT kvs=>obtain⟨_,_,_,_,o,_,_,e,_⟩:=x;exact Heap.lt_size e
 |set S n=>obtain⟨o,_,_,_,e,_⟩:=x;exact Heap.lt_size e
 |ins C dx fs=>obtain⟨_,_,_,e,_⟩:=x;exact Heap.lt_size e
 |own y=>obtain⟨_,e⟩:=x;exact Heap.lt_size e
 |xd fs=>obtain⟨_,⟨_,_,_,e,_⟩,_⟩:=x;exact Heap.lt_size e
 |rng lo hi=>obtain⟨_,_,_,e⟩:=x;exact Heap.lt_size e
 |frz ob u=>obtain⟨e,_⟩:=x;exact Heap.lt_size e
 |tbl ps=>exact Heap.lt_size (show h.get? a=some _ from x)
 |met f y=>exact Heap.lt_size (show h.get? a=some _ from x)
 |ext φ=>obtain⟨_,⟨_,e⟩,_⟩:=x;exact Heap.lt_size e
theorem Paired.XB{α β:Type}{F G:α->β->Prop}:∀{ut:List α} {wl:List β},Paired F ut wl->(∀a b,F a b->G a b)->Paired G ut wl
 |_,_,.nil,_=>.nil
 |_,_,.cons r t,f=>.cons (f _ _ r) (Paired.XB t f)
theorem qo.Bi(x:qo P w H h a o)(k:∀b u,(b=a\/H b=some (.own a))->h.get? b=some u->h'.get? b=some u)
  (ho:∀b,H b=some (.own a)->H' b=some (.own a)) (ht:∀b xs,H b=some (.tup xs)->H' b=some (.tup xs)):qo P w H' h' a o:=by
 induction o with
 |lst xs=>obtain⟨z,its,n,r,e⟩:=x;exact⟨z,its,n,r,k _ _ (.inl rfl) e⟩
 |tup xs=>obtain⟨z,its,r,ob,e,c⟩:=x;exact⟨z,its,r,ob,k _ _ (.inl rfl) e,c⟩
 |dK kvs=>obtain⟨z,y,vs,r,ob,es,ep,e,c⟩:=x;exact⟨z,y,vs,r,ob,es,ep,k _ _ (.inl rfl) e,c⟩
 |dT kvs=>
  obtain⟨z,y,xs,r,ob,es,ep,e,c⟩:=x
  exact⟨z,y,xs,Paired.XB r fun p q z=>⟨z.1,ht _ _ z.2.1,z.2.2⟩,ob,es,ep,k _ _ (.inl rfl) e,c⟩
 |set S n=>obtain⟨ob,es,ep,t,e,c⟩:=x;exact⟨ob,es,ep,t,k _ _ (.inl rfl) e,c⟩
 |ins C dx fs=>
  obtain⟨d,z,ne,e,mA,⟨od,es,ep,e2,c⟩,r⟩:=x
  exact⟨ho _ d,z,ne,k _ _ (.inl rfl) e,mA,⟨od,es,ep,k _ _ (.inr d) e2,c⟩,r⟩
 |own y=>obtain⟨ob,e⟩:=x;exact⟨ob,k _ _ (.inl rfl) e⟩
 |xd fs=>obtain⟨mA,⟨od,es,ep,e,c⟩,r⟩:=x;exact⟨mA,⟨od,es,ep,k _ _ (.inl rfl) e,c⟩,r⟩
 |rng lo hi=>obtain⟨t,u,v,e⟩:=x;exact⟨t,u,v,k _ _ (.inl rfl) e⟩
 |frz ob u ih=>obtain⟨e,q⟩:=x;exact⟨k _ _ (.inl rfl) e,ih q⟩
 |tbl ps=>
  have e:h.get? a=some {cls:=.none,data:=.fields ps}:=x
  show h'.get? a=some {cls:=.none,data:=.fields ps}
  exact k a _ (.inl rfl) e
 |met f y=>
  have e:h.get? a=some (PySem.W.methodObj (.ref f) (.ref y)):=x
  show h'.get? a=some (PySem.W.methodObj (.ref f) (.ref y))
  exact k a _ (.inl rfl) e
 |ext φ=>obtain⟨p,⟨o,e⟩,st⟩:=x;exact⟨st _ _ p fun o q=>k _ _ (.inl rfl) q,⟨o,k _ _ (.inl rfl) e⟩,st⟩
theorem HOk.lt(x:HOk P w H h)(e:H a=some o):a<h.objs.size:=(x a o e).lt
theorem HOk.fresh(x:HOk P w H h)(e:h.objs.size<=a):H a=none:=by
 cases q:H a with
 |none=>rfl
 |some u=>exact absurd (lt_of_lt_of_le (x.lt q) e) (lt_irrefl _)
theorem HOk.kept(x:HOk P w H h)(k:∀b u,h.get? b=some u->h'.get? b=some u):HOk P w H h':=fun a o e=>
 (x a o e).Bi (fun b u _ q=>k b u q) (fun _ q=>q) fun _ _ q=>q
theorem HOk.laid(x:HOk P w H h)(k:∀b u,h.get? b=some u->h'.get? b=some u)(hp:h.objs.size<=a)(new:qo P w (upd H a o) h' a o):HOk P w (upd H a o) h':=fun b u e=>by
 have hn:=x.fresh hp
 by_cases hb:b=a
 ·subst hb;rw[d9] at e;cases e;exact new
 ·rw[cw hb] at e
  exact (x b u e).Bi (fun c v _ q=>k c v q) (fun c q=>by rw[cw (bN q hn)];exact q) fun c xs q=>by rw[cw (bN q hn)];exact q
end
noncomputable def Rd(H:Hp)(a:Addr)(u:HO):Prop:=H a=some u\/∃o,H a=some (.frz o u)
theorem Rd.ok{P:Program}{w:World}{H:Hp}{h:Heap}{a:Addr}{u:HO}(r:Rd H a u)(x:HOk P w H h):qo P w H h a u:=by
 rcases r with r|⟨o,r⟩
 ·exact x a u r
 ·obtain⟨_,q⟩:=x a _ r
  exact q
def Mut:Option HO->Prop
 |some (.lst _)=>True
 |some (.dK _)=>True
 |some (.dT _)=>True
 |some (.set _ _)=>True
 |some (.ins _ _ _)=>True
 |some (.ext _)=>True
 |_=>False
section
variable {P:Program}{w:World}{H:Hp}{h h':Heap}{x e:Addr}{o':HO}
theorem HOk.write(ok:HOk P w H h)(mu:Mut (H x))(he:e=x\/H e=some (.own x))(k:∀b u,b≠e->h.get? b=some u->h'.get? b=some u)(heo:∃u,h'.get? e=some u)
  (new:qo P w (upd H x o') h' x o'):HOk P w (upd H x o') h':=fun b u q=>by
 have nown:∀c y,H c=some (.own y)->c≠x:=fun c y r z=>by subst z;rw[r] at mu;exact mu
 have ntup:∀c xs,H c=some (.tup xs)->c≠x:=fun c xs r z=>by subst z;rw[r] at mu;exact mu
 by_cases hb:b=x
 ·subst hb;rw[d9] at q;cases q;exact new
 ·rw[cw hb] at q
  by_cases hbe:b=e
  ·have q':H b=some (.own x):=by
    rcases he with z|z
    ·exact absurd (hbe.trans z) hb
    ·rw[hbe];exact z
   rw[q] at q';cases q'
   obtain⟨v,hv⟩:=heo
   exact⟨v,by rw[hbe];exact hv⟩
  ·refine (ok b u q).Bi (fun c v hc r=>k c v ?_ r) (fun c r=>by rw[cw (nown c b r)];exact r) fun c xs r=>by rw[cw (ntup c xs r)];exact r
   rcases hc with rfl|hc
   ·exact hbe
   ·rintro rfl
    rcases he with z|z
    ·exact nown c b hc z
    ·rw[hc] at z;cases z;exact hb rfl
end
structure Un(fs ex:List Addr)(H H':Hp)(h h':Heap):Prop where
 keep:∀b o,h.get? b=some o->H b=none->b ∉ fs->b ∉ ex->h'.get? b=some o
 slot:∀b o,h.get? b=some o->H b=none->b∈fs->b ∉ ex->∃sl,h'.get? b=some {o with slots:=sl}
 free:∀b o,h.get? b=some o->H b=none->b ∉ ex->H' b=none
 there:∀b o,h.get? b=some o->b ∉ ex->∃o',h'.get? b=some o'
 yk:∀b xs,H b=some (.tup xs)->H' b=some (.tup xs)
 xK:∀b o u,H b=some (.frz o u)->H' b=some (.frz o u)
 xJ:∀b ps,H b=some (.tbl ps)->∃more,H' b=some (.tbl (ps++more))
section
variable {fs fs' ex ex':List Addr}{H H1 H2:Hp}{h h1 h2 h':Heap}{a x e:Addr}{o:HO}
theorem Un.any(u:Un fs ex H H1 h h1){b:Addr}{ob:Obj}(q:h.get? b=some ob)(n:H b=none)(hx:b ∉ ex):∃sl,h1.get? b=some {ob with slots:=sl}:=by
 by_cases hb:b∈fs
 ·exact u.slot b ob q n hb hx
 ·exact⟨ob.slots,u.keep b ob q n hb hx⟩
theorem Un.trans(a:Un fs ex H H1 h h1)(b:Un fs ex H1 H2 h1 h2):Un fs ex H H2 h h2 where
 keep:=fun c ob q n hc hx=>b.keep c ob (a.keep c ob q n hc hx) (a.free c ob q n hx) hc hx
 slot:=fun c ob q n hc hx=>by
  obtain⟨sl,e1⟩:=a.slot c ob q n hc hx
  obtain⟨sl',e2⟩:=b.slot c _ e1 (a.free c ob q n hx) hc hx
  exact⟨sl',e2⟩
 free:=fun c ob q n hx=>by
  obtain⟨o',e1⟩:=a.there c ob q hx
  exact b.free c o' e1 (a.free c ob q n hx) hx
 there:=fun c ob q hx=>by
  obtain⟨o',e1⟩:=a.there c ob q hx
  exact b.there c o' e1 hx
 yk:=fun c xs q=>b.yk c xs (a.yk c xs q)
 xK:=fun c ob xs q=>b.xK c ob xs (a.xK c ob xs q)
 xJ:=fun c ps q=>by
  obtain⟨m1,e1⟩:=a.xJ c ps q
  obtain⟨m2,e2⟩:=b.xJ c _ e1
  exact⟨m1++m2,by rw[e2,Array.append_assoc]⟩
theorem Un.kept(k:∀b u,h.get? b=some u->h'.get? b=some u):Un fs ex H H h h':=
 ⟨fun b ob q _ _ _=>k b ob q,fun b ob q _ _ _=>⟨ob.slots,k b ob q⟩,fun _ _ _ n _=>n,fun b ob q _=>⟨ob,k b ob q⟩,fun _ _ q=>q,fun _ _ _ q=>q,fun _ ps q=>⟨#[],by rw[q];simp⟩⟩
theorem Un.refl:Un fs ex H H h h:=Un.kept fun _ _ q=>q
theorem Un.laid(k:∀b u,h.get? b=some u->h'.get? b=some u)(hp:h.objs.size<=a)(hn:H a=none):Un fs ex H (upd H a o) h h' where
 keep:=fun b u q _ _ _=>k b u q
 slot:=fun b u q _ _ _=>⟨u.slots,k b u q⟩
 free:=fun b u q n _=>by rw[cw (ne_of_lt (lt_of_lt_of_le (Heap.lt_size q) hp))];exact n
 there:=fun b u q _=>⟨u,k b u q⟩
 yk:=fun b xs q=>by rw[cw (bN q hn)];exact q
 xK:=fun b u xs q=>by rw[cw (bN q hn)];exact q
 xJ:=fun b ps q=>⟨#[],by rw[cw (bN q hn),q];simp⟩
theorem Un.write(mu:Mut (H x))(he:e=x\/H e=some (.own x))(k:∀b u,b≠e->h.get? b=some u->h'.get? b=some u)(heo:∃u,h'.get? e=some u):Un fs ex H (upd H x o) h h':=by
 have hx:∀b,H b=none->b≠x:=fun b n z=>by subst z;rw[n] at mu;exact mu
 have hb:∀b,H b=none->b≠e:=fun b n z=>by
  subst z
  rcases he with r|r
  ·exact hx b n r
  ·rw[n] at r;cases r
 have hm:∀b u,H b=some u->¬ Mut (some u)->b≠x:=fun b u q nm z=>by subst z;rw[q] at mu;exact nm mu
 refine⟨fun b u q n _ _=>k b u (hb b n) q,fun b u q n _ _=>⟨u.slots,k b u (hb b n) q⟩,fun b u q n _=>by rw[cw (hx b n)];exact n,fun b u q _=>?_,
  fun b xs q=>by rw[cw (hm b _ q fun z=>z)];exact q,fun b u xs q=>by rw[cw (hm b _ q fun z=>z)];exact q,fun b ps q=>⟨#[],by rw[cw (hm b _ q fun z=>z),q];simp⟩⟩
 by_cases hbe:b=e
 ·subst hbe;exact heo
 ·exact⟨u,k b u hbe q⟩
end
def trk(h:Heap)(H:Hp):List Addr:=(List.range h.objs.size).filter fun a=>(H a).isSome
def IM(h:Heap)(H:Hp):Heap:=PySem.W.hideAll h (trk h H)
theorem Pj(h:Heap)(H:Hp):(IM h H).objs.size=h.objs.size:=PySem.W.hideAll_size _ _
theorem Rt{h:Heap}{H:Hp}{b:Addr}{o:Obj}(e:h.get? b=some o)(n:H b=none):(IM h H).get? b=some o:=
 PySem.W.hideAll_get _ e fun hm=>by
  have q:(H b).isSome=true:=(List.mem_filter.mp hm).2
  rw[n] at q;simp at q
theorem Th{h:Heap}{H:Hp}{b:Addr}{o:Obj}(e:(IM h H).get? b=some o):h.get? b=some o/\H b=none:=by
 have e':h.get? b=some o:=PySem.W.of_hideAll (trk h H) e
 refine⟨e',?_⟩
 cases q:H b with
 |none=>rfl
 |some x=>
  have hm:b∈trk h H:=List.mem_filter.mpr ⟨List.mem_range.mpr (Heap.lt_size e'),by simp[q]⟩
  have z:(IM h H).get? b=none:=PySem.W.hideAll_none (trk h H) hm
  rw[z] at e;cases e
def TL(g h:Heap)(L:Addr):List (Addr×Obj):=(List.range h.objs.size).filterMap fun a=>if a=L\/(g.get? a).isSome=true then none else (h.get? a).map fun o=>(a,o)
def rest(g h:Heap)(L d:Addr):List (Addr×Obj):=(TL g h L).filter fun p=>decide (p.1≠d)
end L2
namespace L2
open PySem PySem.Spec PyProof.Rows
structure Mod(K:PySem.W.Frag)(mg:Str->Option Value)(base:Heap):Prop where
 kin:K.In base
 glob:base.Ns mainGlobals mg
 blt:∃mb,base.Ns builtinsNs mb/\∀x:Str,x ≠ "__name__"->mb x=bootBuiltins x
 nolimit:base.NoLimit
structure Cx where
 prog:Program
 w:World
 K:PySem.W.Frag
 mg:Str->Option Value
 base:Heap
 A:Around
 N:List Str
 dL:Shared
 H₀:Hp
 env:Env
 outer:List Env
 stack:List Env
 ex:List Addr
 fn:Str->Bool
 calm:Bool
 pn:List (Addr×Obj)
 xe:Value->Shared->Prop
def frs(l:List Env):List Addr:=l.filterMap (·.frame)
abbrev Cx.fs(X:Cx):List Addr:=frs X.outer
noncomputable def Vis(sc:Scope)(x:Str):Prop:=sc.names.lookup x=some .local\/sc.names.lookup x=some .cell\/sc.names.lookup x=some .free
noncomputable def Loc(sc:Scope)(x:Str):Prop:=sc.names.lookup x=some .local\/sc.names.lookup x=some .cell
noncomputable def Look(env:Env)(h:Heap)(m:Str->Option Value)(x:Str)(u:Value):Prop:=
 (env.kindOf x=some .local/\m x=some u)\/((env.kindOf x=some .cell\/env.kindOf x=some .free)/\∃c,env.cells.lookup x=some c/\h.IsCell c (some u))
structure Cx.Ok(X:Cx):Prop where
 mod:Mod X.K X.mg X.base
 kind:X.env.scope.kind = .function
 glob:X.env.globals=mainGlobals
 blt:X.env.builtins=builtinsNs
 above:X.dL.heap.objs.size<=X.env.locals
 inj:∀x y c,X.env.cells.lookup x=some c->X.env.cells.lookup y=some c->x=y
 has:∀x,(X.env.kindOf x=some .cell\/X.env.kindOf x=some .free)->∃c,X.env.cells.lookup x=some c
 cab:∀x c,X.fn x=true->X.env.cells.lookup x=some c->X.dL.heap.objs.size<=c
 hd:X.calm=true->X.A.handled=none
 qt:X.A.handled=none\/∃(e:Addr) (oe:Obj) (vs:Array Value),X.A.handled=some (.ref e)/\(e,oe)∈X.pn/\oe.data = .fields vs/\vs[2]? = some .none
 frames:X.A.frames=some X.stack
 stk:X.stack=X.outer\/(X.stack=X.env::X.outer/\X.env.frame=some X.env.locals)
 exf:∀b∈X.ex,b≠X.env.locals/\∀x c,X.env.cells.lookup x=some c->c≠b
 bs:∀b o,X.base.get? b=some o->X.dL.heap.get? b=some o/\X.H₀ b=none
 bsz:X.base.objs.size<=X.dL.heap.objs.size
 Ih:∀b o,X.base.get? b=some o->b ∉ X.ex
 R4:∀b∈X.ex,b ∉ X.fs
 yU:X.dL.heap.FunFrames X.base X.outer
 frf:∀b∈X.fs,X.H₀ b=none
structure Inv(X:Cx)(pins:List (Addr×Obj))(Z:List (Option V))(H:Hp)(s:Shared):Prop where
 ok:X.Ok
 os:s.os=X.dL.os
 bare:AllBare s.gens
 base:Un X.fs X.ex X.H₀ H X.dL.heap s.heap
 loc:∃m,s.heap.Ns X.env.locals m/\∀(i:Nat) (x:Str) (v:V),X.N[i]? = some x->Z[i]? = some (some v)->Vis X.env.scope x->∃u,RelV v u/\Look X.env s.heap m x u
 cell:∀x c,X.env.cells.lookup x=some c->∃v,s.heap.IsCell c v
 free:H X.env.locals=none
 lJ:∀x c,X.env.cells.lookup x=some c->H c=none
 pin:∀p∈X.pn++pins,s.heap.get? p.1=some p.2/\H p.1=none/\p.1≠X.env.locals/\p.1 ∉ X.fs/\∀v,p.2.data≠.cell v
 hok:HOk X.prog X.w H s.heap
 len:Z.length=X.N.length
section
variable {X:Cx}{pins:List (Addr×Obj)}{Z:List (Option V)}{H H':Hp}{s:Shared}{h':Heap}
theorem Inv.MM(I:Inv X pins Z H s):nI X.A s.heap:=by
 rcases I.ok.qt with q|⟨e,oe,vs,q,hp,r⟩
 ·exact .inl q
 ·exact .inr ⟨e,oe,vs,q,(I.pin (e,oe) (mem_append_left _ hp)).1,r⟩
theorem Inv.hne(I:Inv X pins Z H s){b:Addr}(hb:∀p∈X.pn++pins,p.1≠b):∀e,X.A.handled=some (.ref e)->e≠b:=fun e he=>by
 rcases I.ok.qt with q|⟨e1,oe,vs,q,hp,r⟩
 ·rw[q] at he;cases he
 ·rw[q] at he;cases he;exact hb (e,oe) (mem_append_left _ hp)
theorem Cx.Ok.Yp(ok:X.Ok){b:Addr}{o:Obj}(e:X.base.get? b=some o):b ∉ X.fs:=fun hb=>by
 have:=(ok.yU.mem hb).1
 rw[e] at this;cases this
theorem Inv.bs(I:Inv X pins Z H s):∀b o,X.base.get? b=some o->s.heap.get? b=some o/\H b=none:=fun b o e=>
 ⟨I.base.keep b o (I.ok.bs b o e).1 (I.ok.bs b o e).2 (I.ok.Yp e) (I.ok.Ih b o e),I.base.free b o (I.ok.bs b o e).1 (I.ok.bs b o e).2 (I.ok.Ih b o e)⟩
theorem Inv.bk(I:Inv X pins Z H s):∀b o,X.base.get? b=some o->s.heap.get? b=some o:=fun b o e=>(I.bs b o e).1
theorem Inv.mod(I:Inv X pins Z H s):Mod X.K X.mg X.base:=I.ok.mod
theorem Inv.kIn(I:Inv X pins Z H s):X.K.In s.heap:=I.ok.mod.kin.keeps I.bk
theorem Inv.lt(I:Inv X pins Z H s):X.env.locals<s.heap.objs.size:=let ⟨_,hn,_⟩:=I.loc;hn.lt
theorem Inv.sz(I:Inv X pins Z H s):X.dL.heap.objs.size<=s.heap.objs.size:=le_trans I.ok.above (Nat.le_of_lt I.lt)
theorem Inv.X3(I:Inv X pins Z H s){a:Addr}(h:s.heap.objs.size<=a):a ∉ X.fs:=fun hb=>by
 obtain⟨_,o,ho,_⟩:=I.ok.yU.mem hb
 exact absurd (lt_of_lt_of_le (Heap.lt_size ho) (le_trans I.sz h)) (lt_irrefl _)
theorem Inv.cne(I:Inv X pins Z H s):∀x c,X.env.cells.lookup x=some c->c≠X.env.locals:=fun x c e z=>by
 obtain⟨v,o,ho,hd⟩:=I.cell x c e
 obtain⟨m,⟨o',es,ep,ho',hd',_⟩,_⟩:=I.loc
 rw[z,ho'] at ho;cases ho;rw[hd'] at hd;cases hd
theorem Inv.yU(I:Inv X pins Z H s):s.heap.FunFrames X.base X.outer:=by
 have all:∀(l:List Env),(∀b∈frs l,b∈X.fs)->X.dL.heap.FunFrames X.base l->s.heap.FunFrames X.base l:=by
  intro l
  induction l with
  |nil=>intro _ _;trivial
  |cons env r ih=>
   intro hs hl
   obtain⟨hk,⟨L,o,hf,hn,ho,hd⟩,hr⟩:=hl
   have hL:L∈X.fs:=hs L (by unfold frs;rw[filterMap_cons,hf];exact mem_cons_self)
   obtain⟨sl,e⟩:=I.base.slot L o ho (I.ok.frf L hL) hL fun z=>I.ok.R4 L z hL
   exact⟨hk,⟨L,_,hf,hn,e,hd⟩,ih (fun b hb=>hs b (by unfold frs;rw[filterMap_cons,hf];exact mem_cons_of_mem _ hb)) hr⟩
 exact all X.outer (fun _ hb=>hb) I.ok.yU
theorem Inv.stack(I:Inv X pins Z H s):s.heap.FunFrames X.base X.stack:=by
 rcases I.ok.stk with e|⟨e,hf⟩
 ·rw[e];exact I.yU
 ·rw[e]
  obtain⟨m,hn,_⟩:=I.loc
  refine .cons (by rw[I.ok.kind];decide) hf hn ?_ I.yU
  exact Heap.get?_none_of_le (le_trans I.ok.bsz I.ok.above)
theorem Inv.rM(I:Inv X pins Z H s):∀b∈frs X.stack,b∈X.env.locals::X.fs:=fun b hb=>by
 rcases I.ok.stk with e|⟨e,hf⟩
 ·rw[e] at hb;exact mem_cons_of_mem _ hb
 ·rw[e] at hb
  unfold frs at hb
  rw[filterMap_cons,hf] at hb
  exact hb
theorem Inv.xw(I:Inv X pins Z H s):∀b∈frs X.stack,H b=none:=fun b hb=>by
 rcases List.mem_cons.mp (I.rM b hb) with e|hb
 ·rw[e];exact I.free
 ·obtain⟨_,o,ho,_⟩:=I.ok.yU.mem hb
  exact I.base.free b o ho (I.ok.frf b hb) fun z=>I.ok.R4 b z hb
theorem Inv.step{g':Array GenState}{t':Nat}{d':Drawn}{ch:List Addr}(I:Inv X pins Z H s)
  (hch:∀b∈ch,(b∈X.ex\/X.dL.heap.objs.size<=b)/\b≠X.env.locals/\(∀x c,X.env.cells.lookup x=some c->c≠b)/\∀p∈X.pn++pins,p.1≠b)
  (keep:∀b o,b≠X.env.locals->b ∉ X.fs->b ∉ ch->s.heap.get? b=some o->H b=none->h'.get? b=some o)
  (slot:∀b o,b≠X.env.locals->b∈X.fs->b ∉ ch->s.heap.get? b=some o->H b=none->∃sl,h'.get? b=some {o with slots:=sl}) (free:∀b o,b ∉ ch->s.heap.get? b=some o->H b=none->H' b=none)
  (there:∀b o,b ∉ ch->s.heap.get? b=some o->∃o',h'.get? b=some o')
  (yk:∀b xs,H b=some (.tup xs)->H' b=some (.tup xs)) (xK:∀b o u,H b=some (.frz o u)->H' b=some (.frz o u)) (xJ:∀b ps,H b=some (.tbl ps)->∃more,H' b=some (.tbl (ps++more)))
  (ns:∀m,s.heap.Ns X.env.locals m->h'.Ns X.env.locals m) (hok:HOk X.prog X.w H' h') (hg:AllBare g') :
  Inv X pins Z H' {s with heap:=h',gens:=g',drawn:=d',toks:=t'}:=by
 have neL:∀b o,X.dL.heap.get? b=some o->b≠X.env.locals:=fun b o e=>ne_of_lt (lt_of_lt_of_le (Heap.lt_size e) I.ok.above)
 have neC:∀b o,X.dL.heap.get? b=some o->b ∉ X.ex->b ∉ ch:=fun b o e hx hb=>by
  rcases (hch b hb).1 with z|z
  ·exact hx z
  ·exact absurd (lt_of_lt_of_le (Heap.lt_size e) z) (lt_irrefl _)
 have cellK:∀x c,X.env.cells.lookup x=some c->∀v,s.heap.IsCell c v->h'.IsCell c v:=fun x c e v ⟨o,ho,hd⟩=>by
  have nch:c ∉ ch:=fun z=>(hch c z).2.2.1 x c e rfl
  by_cases hc:c∈X.fs
  ·obtain⟨sl,q⟩:=slot c o (I.cne x c e) hc nch ho (I.lJ x c e)
   exact⟨_,q,hd⟩
  ·exact⟨o,keep c o (I.cne x c e) hc nch ho (I.lJ x c e),hd⟩
 refine⟨I.ok,I.os,hg,⟨fun b o e n hb hx=>?_,fun b o e n hb hx=>?_,fun b o e n hx=>?_,fun b o e hx=>?_,fun b xs e=>yk b xs (I.base.yk b xs e),fun b o xs e=>xK b o xs (I.base.xK b o xs e),fun b ps e=>?_⟩,?_,fun x c e=>?_,?_,fun x c e=>?_,fun p hp=>?_,hok,I.len⟩
 ·exact keep b o (neL b o e) hb (neC b o e hx) (I.base.keep b o e n hb hx) (I.base.free b o e n hx)
 ·obtain⟨sl,e1⟩:=I.base.slot b o e n hb hx
  obtain⟨sl',e2⟩:=slot b _ (neL b o e) hb (neC b o e hx) e1 (I.base.free b o e n hx)
  exact⟨sl',e2⟩
 ·obtain⟨o',e1⟩:=I.base.there b o e hx
  exact free b o' (neC b o e hx) e1 (I.base.free b o e n hx)
 ·obtain⟨o',e1⟩:=I.base.there b o e hx
  exact there b o' (neC b o e hx) e1
 ·obtain⟨m1,e1⟩:=I.base.xJ b ps e
  obtain⟨m2,e2⟩:=xJ b _ e1
  exact⟨m1++m2,by rw[e2,Array.append_assoc]⟩
 ·obtain⟨m,hn,hl⟩:=I.loc
  refine⟨m,ns m hn,fun i x v e1 e2 e3=>?_⟩
  obtain⟨u,r,l⟩:=hl i x v e1 e2 e3
  refine⟨u,r,?_⟩
  rcases l with l|⟨k,c,e,z⟩
  ·exact .inl l
  ·exact .inr ⟨k,c,e,cellK x c e _ z⟩
 ·obtain⟨v,z⟩:=I.cell x c e
  exact⟨v,cellK x c e v z⟩
 ·obtain⟨m,⟨o,_,_,ho,_⟩,_⟩:=I.loc
  exact free _ o (fun z=>(hch _ z).2.1 rfl) ho I.free
 ·obtain⟨v,o,ho,hd⟩:=I.cell x c e
  exact free c o (fun z=>(hch c z).2.2.1 x c e rfl) ho (I.lJ x c e)
 ·obtain⟨e,n,ne,nf,d⟩:=I.pin p hp
  have nch:p.1 ∉ ch:=fun z=>(hch p.1 z).2.2.2 p hp rfl
  exact⟨keep p.1 p.2 ne nf nch e n,free p.1 p.2 nch e n,ne,nf,d⟩
theorem Inv.un{t':Nat}(I:Inv X pins Z H s)(u:Un X.fs [] H H' s.heap h')(hok:HOk X.prog X.w H' h'):Inv X pins Z H' {s with heap:=h',toks:=t'}:=by
 obtain⟨m,⟨o,es,ep,ho,r⟩,_⟩:=id I.loc
 obtain⟨sl,hL⟩:=u.any ho I.free (by simp)
 exact I.step (g':=s.gens) (d':=s.drawn) (ch:=[]) (fun _ z=>nomatch z) (fun b o _ hb _ e n=>u.keep b o e n hb (by simp)) (fun b o _ hb _ e n=>u.slot b o e n hb (by simp)) (fun b o _ e n=>u.free b o e n (by simp)) (fun b o _ e=>u.there b o e (by simp)) u.yk u.xK u.xJ (fun m' hm=>by
  obtain⟨o',es',ep',ho',r'⟩:=hm
  rw[ho] at ho';cases ho'
  exact⟨_,es',ep',hL,r'⟩) hok I.bare
theorem Inv.call{g':Array GenState}{t':Nat}{d':Drawn}{ch:List Addr}(I:Inv X pins Z H s)(u:Un (frs X.stack) ch H H' s.heap h')(hok:HOk X.prog X.w H' h')(hg:AllBare g')
  (hch:∀b∈ch,(b∈X.ex\/X.dL.heap.objs.size<=b)/\b≠X.env.locals/\(∀x c,X.env.cells.lookup x=some c->c≠b)/\∀p∈X.pn++pins,p.1≠b) :
  Inv X pins Z H' {s with heap:=h',gens:=g',drawn:=d',toks:=t'}:=by
 obtain⟨m,⟨o,es,ep,ho,r⟩,_⟩:=id I.loc
 obtain⟨sl,hL⟩:=u.any ho I.free fun z=>(hch _ z).2.1 rfl
 exact I.step (ch:=ch) hch (fun b o hL hb hc e n=>u.keep b o e n (fun z=>(List.mem_cons.mp (I.rM b z)).elim hL hb) hc) (fun b o _ _ hc e n=>u.any e n hc) (fun b o hc e n=>u.free b o e n hc) (fun b o hc e=>u.there b o e hc) u.yk u.xK u.xJ (fun m' hm=>by
  obtain⟨o',es',ep',ho',r'⟩:=hm
  rw[ho] at ho';cases ho'
  exact⟨_,es',ep',hL,r'⟩) hok hg
theorem Inv.turned{t':Nat}{it:Addr}(I:Inv X pins Z H s)(k:∀b o,b≠it->s.heap.get? b=some o->h'.get? b=some o)(hn:H it=none)(hL:it≠X.env.locals)
  (h1:it∈X.ex\/X.dL.heap.objs.size<=it) (h2:∀x c,X.env.cells.lookup x=some c->c≠it) (h3:∀p∈X.pn++pins,p.1≠it):Inv X pins Z H {s with heap:=h',toks:=t'}:=by
 have nit:∀b u,H b=some u->b≠it:=fun b u e z=>by rw[z,hn] at e;cases e
 refine I.step (g':=s.gens) (d':=s.drawn) (ch:=[it]) (fun b hb=>?_) (fun b o _ _ hc e _=>k b o (fun z=>hc (by simp[z])) e) (fun b o _ _ hc e _=>⟨o.slots,k b o (fun z=>hc (by simp[z])) e⟩) (fun _ _ _ _ n=>n)
  (fun b o hc e=>⟨o,k b o (fun z=>hc (by simp[z])) e⟩) (fun _ _ e=>e) (fun _ _ _ e=>e) (fun b ps e=>⟨#[],by rw[e];simp⟩) (fun m hm=>?_) (fun b u e=>?_) I.bare
 ·have e:b=it:=by simpa using hb
  subst e
  exact⟨h1,hL,h2,h3⟩
 ·obtain⟨o,es,ep,ho,r⟩:=hm
  exact⟨o,es,ep,k _ o (Ne.symm hL) ho,r⟩
 ·refine (I.hok b u e).Bi (fun c v hc q=>k c v ?_ q) (fun _ q=>q) fun _ _ q=>q
  rcases hc with z|z
  ·rw[z];exact nit b u e
  ·exact nit c _ z
theorem Inv.tok(I:Inv X pins Z H s)(t:Nat):Inv X pins Z H {s with toks:=t}:=I.un (h':=s.heap) (t':=t) Un.refl I.hok
theorem Inv.kept{t':Nat}(I:Inv X pins Z H s)(k:∀b u,s.heap.get? b=some u->h'.get? b=some u):Inv X pins Z H {s with heap:=h',toks:=t'}:=I.un (Un.kept k) (I.hok.kept k)
theorem Inv.laid{a:Addr}{o:HO}{t':Nat}(I:Inv X pins Z H s)(k:∀b u,s.heap.get? b=some u->h'.get? b=some u)(hp:s.heap.objs.size<=a)(new:qo X.prog X.w (upd H a o) h' a o) :
  Inv X pins Z (upd H a o) {s with heap:=h',toks:=t'}:=I.un (Un.laid k hp (I.hok.fresh hp)) (I.hok.laid k hp new)
theorem Inv.write{x e:Addr}{o:HO}{t':Nat}(I:Inv X pins Z H s)(mu:Mut (H x))(he:e=x\/H e=some (.own x))(k:∀b u,b≠e->s.heap.get? b=some u->h'.get? b=some u)(heo:∃u,h'.get? e=some u)
  (new:qo X.prog X.w (upd H x o) h' x o):Inv X pins Z (upd H x o) {s with heap:=h',toks:=t'}:=I.un (Un.write mu he k heo) (I.hok.write mu he k heo new)
theorem Inv.OB{pins':List (Addr×Obj)}(I:Inv X pins Z H s)(h:∀p∈pins',s.heap.get? p.1=some p.2/\H p.1=none/\p.1≠X.env.locals/\p.1 ∉ X.fs/\∀v,p.2.data≠.cell v):Inv X pins' Z H s:=
 ⟨I.ok,I.os,I.bare,I.base,I.loc,I.cell,I.free,I.lJ,fun p hp=>(List.mem_append.mp hp).elim (fun z=>I.pin p (mem_append_left _ z)) (h p),I.hok,I.len⟩
theorem Ln{N:List Str}(hN:N.Nodup){i j:Nat}{x:Str}(a:N[i]? = some x)(b:N[j]? = some x):i=j:=by
 obtain⟨h1,e1⟩:=List.getElem?_eq_some_iff.mp a
 obtain⟨h2,e2⟩:=List.getElem?_eq_some_iff.mp b
 exact (List.getElem_inj hN).mp (e1.trans e2.symm)
theorem OU{M:Model}{A:Around}{E:Value->Shared->Prop}{i:Nat}{x:Str}{v:V}{u:Value}{Q:Unit->Shared->Prop}(I:Inv X pins Z H s)(hN:X.N.Nodup)(hi:X.N[i]? = some x)(hx:Loc X.env.scope x)(r:RelV v u)
  (h:∀s',Inv X pins (Z.set i (some v)) H s'->(∃a,Heap.SameBut a s.heap s'.heap/\(a=X.env.locals\/X.env.cells.lookup x=some a))->Q () s') (hf:X.fn x=true\/X.env.scope.names.lookup x=some .local:=by first|exact .inl rfl|exact .inr rfl|assumption):wpAny M A (storeName X.env x u) Q E s:=by
 obtain⟨m,hn,hl⟩:=id I.loc
 have hcls:(X.env.scope.kind==.class || (X.env.scope.kind==.module&&X.env.locals != X.env.globals))=false:=by rw[I.ok.kind];rfl
 have tv:i<Z.length:=by rw[I.len];exact (List.getElem?_eq_some_iff.mp hi).1
 have cne:=I.cne
 have tracked:∀{a:Addr} {h':Heap},(∃o,s.heap.get? a=some o/\H a=none)->Heap.SameBut a s.heap h'->HOk X.prog X.w H h':=fun {a h'} ha hs b ob e=>by
  obtain⟨_,_,hfree⟩:=ha
  refine (I.hok b ob e).Bi (fun c w' hc q=>(hs.2 c ?_).trans q) (fun _ q=>q) fun _ _ q=>q
  rintro rfl
  rcases hc with rfl|hc
  ·rw[hfree] at e;cases e
  ·rw[hfree] at hc;cases hc
 rcases hx with hk|hk
 ·refine wpAny_storeName_local hk hn (fun h' hn' hs=>?_) hcls
  obtain⟨oL,_,_,hoL,_⟩:=id hn
  refine h _ ⟨I.ok,I.os,I.bare,⟨fun b o e n hb hx=>?_,fun b o e n hb hx=>?_,I.base.free,fun b o e hx=>?_,I.base.yk,I.base.xK,I.base.xJ⟩,⟨_,hn',fun j y v' e1 e2 e3=>?_⟩,fun y c e=>?_,I.free,I.lJ,fun p hp=>?_,tracked ⟨oL,hoL,I.free⟩ hs,by simpa using I.len⟩ ⟨_,hs,.inl rfl⟩
  ·exact (hs.2 b (ne_of_lt (lt_of_lt_of_le (Heap.lt_size e) I.ok.above))).trans (I.base.keep b o e n hb hx)
  ·obtain⟨sl,e1⟩:=I.base.slot b o e n hb hx
   exact⟨sl,(hs.2 b (ne_of_lt (lt_of_lt_of_le (Heap.lt_size e) I.ok.above))).trans e1⟩
  ·obtain⟨o',e1⟩:=I.base.there b o e hx
   exact⟨o',(hs.2 b (ne_of_lt (lt_of_lt_of_le (Heap.lt_size e) I.ok.above))).trans e1⟩
  ·by_cases hj:j=i
   ·subst hj
    rw[hi] at e1;cases e1
    rw[List.getElem?_set_self tv] at e2
    cases e2
    exact⟨u,r,.inl ⟨hk,by simp⟩⟩
   ·rw[List.getElem?_set_ne (Ne.symm hj)] at e2
    obtain⟨u',r',q⟩:=hl j y v' e1 e2 e3
    refine⟨u',r',?_⟩
    rcases q with ⟨k,e⟩|⟨k,c,e,z⟩
    ·refine .inl ⟨k,?_⟩
     have:y≠x:=fun e=>hj (Ln hN e1 (e▸hi))
     simp[this,e]
    ·exact .inr ⟨k,c,e,z.sameBut hs (cne y c e)⟩
  ·obtain⟨w',z⟩:=I.cell y c e
   exact⟨w',z.sameBut hs (cne y c e)⟩
  ·obtain⟨e,n,ne,nf,d⟩:=I.pin p hp
   exact⟨(hs.2 p.1 ne).trans e,n,ne,nf,d⟩
 ·have hfn:X.fn x=true:=by
   rcases hf with z|z
   ·exact z
   ·rw[z] at hk;cases hk
  obtain⟨c,hc⟩:=I.ok.has x (.inl hk)
  obtain⟨w',z⟩:=I.cell x c hc
  refine wpAny_storeName_cell I.ok.kind hk hc z (fun h' hc' hs=>?_)
  obtain⟨oc,hoc,hocd⟩:=id z
  refine h {s with heap:=h'} ⟨I.ok,I.os,I.bare,⟨fun b o e n hb hx=>?_,fun b o e n hb hx=>?_,I.base.free,fun b o e hx=>?_,I.base.yk,I.base.xK,I.base.xJ⟩,⟨m,hn.sameBut hs (Ne.symm (cne x c hc)),fun j y v' e1 e2 e3=>?_⟩,fun y c' e=>?_,I.free,I.lJ,fun p hp=>?_,tracked ⟨oc,hoc,I.lJ x c hc⟩ hs,by simpa using I.len⟩ ⟨c,hs,.inr hc⟩
  ·exact (hs.2 b (ne_of_lt (lt_of_lt_of_le (Heap.lt_size e) (I.ok.cab x c hfn hc)))).trans (I.base.keep b o e n hb hx)
  ·obtain⟨sl,e1⟩:=I.base.slot b o e n hb hx
   exact⟨sl,(hs.2 b (ne_of_lt (lt_of_lt_of_le (Heap.lt_size e) (I.ok.cab x c hfn hc)))).trans e1⟩
  ·obtain⟨o',e1⟩:=I.base.there b o e hx
   exact⟨o',(hs.2 b (ne_of_lt (lt_of_lt_of_le (Heap.lt_size e) (I.ok.cab x c hfn hc)))).trans e1⟩
  ·by_cases hj:j=i
   ·subst hj
    rw[hi] at e1;cases e1
    rw[List.getElem?_set_self tv] at e2
    cases e2
    exact⟨u,r,.inr ⟨.inl hk,c,hc,hc'⟩⟩
   ·rw[List.getElem?_set_ne (Ne.symm hj)] at e2
    obtain⟨u',r',q⟩:=hl j y v' e1 e2 e3
    refine⟨u',r',?_⟩
    rcases q with q|⟨k,c',e,z'⟩
    ·exact .inl q
    ·refine .inr ⟨k,c',e,z'.sameBut hs ?_⟩
     rintro rfl
     exact hj (Ln hN e1 (I.ok.inj _ _ _ e hc▸hi))
  ·by_cases hcc:c'=c
   ·subst hcc;exact⟨_,hc'⟩
   ·obtain⟨w2,z2⟩:=I.cell y c' e
    exact⟨w2,z2.sameBut hs hcc⟩
  ·obtain⟨e,n,ne,nf,d⟩:=I.pin p hp
   refine⟨(hs.2 p.1 ?_).trans e,n,ne,nf,d⟩
   intro q
   rw[q,hoc] at e
   have q':oc=p.2:=Option.some.inj e
   exact d w' (by rw[<- q'];exact hocd)
theorem qx{M:Model}{A:Around}{E:Value->Shared->Prop}{i:Nat}{x:Str}{v:V}{u:Value}{Q:Unit->Shared->Prop}(I:Inv X pins Z H s)(hN:X.N.Nodup)(hi:X.N[i]? = some x)(hx:Loc X.env.scope x)(r:RelV v u)
  (h:∀s',Inv X pins (Z.set i (some v)) H s'->Q () s') (hf:X.fn x=true\/X.env.scope.names.lookup x=some .local:=by first|exact .inl rfl|exact .inr rfl|assumption):wpAny M A (storeName X.env x u) Q E s:=
 OU I hN hi hx r (fun s' I' _=>h s' I') hf
theorem Inv.DU{s':Shared}{ch:List Addr}(I:Inv X pins Z H s)(ho:s'.os=s.os)(u:Un (frs X.stack) ch H H' s.heap s'.heap)(hok:HOk X.prog X.w H' s'.heap)(hg:AllBare s'.gens)
  (hch:∀b∈ch,(b∈X.ex\/X.dL.heap.objs.size<=b)/\b≠X.env.locals/\(∀x c,X.env.cells.lookup x=some c->c≠b)/\∀p∈X.pn++pins,p.1≠b):Inv X pins Z H' s':=by
 obtain⟨h',g',d',t',o'⟩:=s'
 have e:o'=s.os:=ho
 subst e
 exact I.call (g':=g') (t':=t') (d':=d') u hok hg hch
end
abbrev XK:=Value->Option Addr->Hp->Prop
abbrev St:=List (Option V)
abbrev VK:=V->Hp->Prop
abbrev TE:=St->Hp->VK->Prop
abbrev TT:=St->Hp->(Bool->Hp->Prop)->Prop
abbrev TA:=St->Hp->(List V->Hp->Prop)->Prop
structure Ends where
 nx:St->Hp->Prop
 rt:VK
 bk:St->Hp->Prop:=fun _ _=>False
 ct:St->Hp->Prop:=fun _ _=>False
abbrev TS:=Ends->St->Hp->Prop
noncomputable def EP(X:Cx)(pins:List (Addr×Obj))(Z:St)(Q:VK)(u:Value)(s':Shared):Prop:=∃v H',Inv X pins Z H' s'/\RelV v u/\Q v H'
noncomputable def TP(X:Cx)(pins:List (Addr×Obj))(Z:St)(Q:Bool->Hp->Prop)(b:Bool)(s':Shared):Prop:=∃H',Inv X pins Z H' s'/\Q b H'
noncomputable def AP(X:Cx)(pins:List (Addr×Obj))(Z:St)(Q:List V->Hp->Prop)(us:List Value)(s':Shared):Prop:=∃vs H',Inv X pins Z H' s'/\Vals vs us/\Q vs H'
noncomputable def SP(X:Cx)(pins:List (Addr×Obj))(D:Ends)(f:Flow)(s':Shared):Prop:=
 match f with
 |.next=>∃al H',Inv X pins al H' s'/\D.nx al H'
 |.brk=>∃al H',Inv X pins al H' s'/\D.bk al H'
 |.cont=>∃al H',Inv X pins al H' s'/\D.ct al H'
 |.ret u=>∃v al H',Inv X pins al H' s'/\RelV v u/\D.rt v H'
noncomputable def PE(X:Cx)(e:Expr)(t:TE):Prop:=
 ∀(pins:List (Addr×Obj)) (s:Shared) (Z:St) (H:Hp) (Q:VK),Inv X pins Z H s->t Z H Q->wpAny (model X.prog X.w) X.A (eval e X.env) (EP X pins Z Q) X.xe s
noncomputable def PT(X:Cx)(e:Expr)(t:TT):Prop:=
 ∀(pins:List (Addr×Obj)) (s:Shared) (Z:St) (H:Hp) (Q:Bool->Hp->Prop),Inv X pins Z H s->t Z H Q->wpAny (model X.prog X.w) X.A (isTrue e X.env (eval e X.env)) (TP X pins Z Q) X.xe s
noncomputable def PW(X:Cx)(e:Expr)(t:TT):Prop:=
 ∀(whole:Sem Value) (pins:List (Addr×Obj)) (s:Shared) (Z:St) (H:Hp) (Q:Bool->Hp->Prop),Inv X pins Z H s->t Z H Q->wpAny (model X.prog X.w) X.A (isTrue e X.env whole) (TP X pins Z Q) X.xe s
theorem PW.pt{X:Cx}{e:Expr}{t:TT}(h:PW X e t):PT X e t:=h _
noncomputable def PA(X:Cx)(es:List Expr)(t:TA):Prop:=
 ∀(pos:Pos) (pins:List (Addr×Obj)) (s:Shared) (Z:St) (H:Hp) (Q:List V->Hp->Prop),Inv X pins Z H s->t Z H Q->wpAny (model X.prog X.w) X.A (spliced (backTo pos (starEach es X.env))) (AP X pins Z Q) X.xe s
noncomputable def PS(X:Cx)(st:Stmt)(t:TS):Prop:=
 ∀(pins:List (Addr×Obj)) (s:Shared) (Z:St) (H:Hp) (D:Ends),Inv X pins Z H s->t D Z H->wpAny (model X.prog X.w) X.A (exec st X.env) (SP X pins D) X.xe s
noncomputable def PSs(X:Cx)(st:List Stmt)(t:TS):Prop:=
 ∀(pins:List (Addr×Obj)) (s:Shared) (Z:St) (H:Hp) (D:Ends),Inv X pins Z H s->t D Z H->wpAny (model X.prog X.w) X.A (execs st X.env) (SP X pins D) X.xe s
theorem thn{α:Type}{t:Sem α}{Q Q':α->Shared->Prop}{M:Model}{A:Around}{E:Value->Shared->Prop}{s:Shared}(h:wpAny M A t Q E s)(hQ:∀a s,Q a s->Q' a s):wpAny M A t Q' E s:=wpAny_mono h hQ fun _ _ x=>x
end L2
namespace L2
open PySem PySem.Spec PyProof.Rows
section
variable {X:Cx}
theorem bin{a b:Expr}{ta tb:TE}(ha:PE X a ta)(hb:PE X b tb){pins:List (Addr×Obj)}{s:Shared}{Z:St}{H:Hp}{R:V->V->Hp->Prop}(I:Inv X pins Z H s)(h:ta Z H fun x H1=>tb Z H1 fun y H2=>R x y H2)
  {α:Type} {Q:α->Shared->Prop} {f:Value->Value->Sem α}
  (hf:∀v u s2 x y H2,Inv X pins Z H2 s2->RelV x v->RelV y u->R x y H2->wpAny (model X.prog X.w) X.A (f v u) Q X.xe s2) :
  wpAny (model X.prog X.w) X.A (eval a X.env) (fun v cr=>wpAny (model X.prog X.w) X.A (eval b X.env) (fun u l'=>wpAny (model X.prog X.w) X.A (f v u) Q X.xe l') X.xe cr) X.xe s:=by
 refine thn (ha pins s Z H _ I h) fun v s1 ⟨x,H1,I1,r1,q1⟩=>?_
 refine thn (hb pins s1 Z H1 _ I1 q1) fun u s2 ⟨y,H2,I2,r2,q2⟩=>?_
 exact hf v u s2 x y H2 I2 r1 r2 q2
noncomputable def Vd(i:Nat):TE:=fun Z H Q=>∃v,Z[i]? = some (some v)/\Q v H
noncomputable def tC(v:V):TE:=fun _ H Q=>Q v H
theorem L5{i:Nat}{x:Str}{pos:Pos}(hN:X.N[i]? = some x)(hv:Vis X.env.scope x)(hd:(x==("__debug__":Str))=false:=by decide)(hcd:(x==("__classdict__":Str))=false:=by decide):PE X (.Name x pos) (Vd i):=by
 intro pins s Z H Q I h
 obtain⟨v,e,h⟩:=h
 obtain⟨m,hn,hl⟩:=I.loc
 obtain⟨u,r,l⟩:=hl i x v hN e hv
 have fin:EP X pins Z Q u s:=⟨v,H,I,r,h⟩
 rcases l with ⟨hk,hm⟩|⟨hk,c,hc,hcell⟩
 ·exact wpAny_Name (wpAny_loadName_local I.ok.kind hk hn hm fin) hd
 ·rcases hk with hk|hk
  ·exact wpAny_Name (wpAny_loadName_cell I.ok.kind hk hc hcell fin) hd
  ·exact wpAny_Name (wpAny_loadName_free I.ok.kind hk hc hcell fin hcd) hd
theorem Vb{i j pos}:PE X (.Constant (.int i) j pos) (tC (.int i)):=fun _ _ _ H _ I h=>wpAny_Constant_int ⟨.int i,H,I.tok _,⟨_,rfl⟩,h⟩
theorem W0{b j pos}:PE X (.Constant (.bool b) j pos) (tC (.bl b)):=fun _ _ _ H _ I h=>Constant_bool ⟨.bl b,H,I,rfl,h⟩
theorem U6{j pos}:PE X (.Constant .none j pos) (tC .non):=fun _ _ _ H _ I h=>Constant_none ⟨.non,H,I,rfl,h⟩
theorem Qw{x j pos}:PE X (.Constant (.str x) j pos) (tC (.str x)):=fun _ _ _ H _ I h=>Calls.Constant_str ⟨.str x,H,I.tok _,⟨_,rfl⟩,h⟩
noncomputable def Gl(X:Cx)(x:Str):Prop:=X.env.kindOf x=some .globalImplicit
theorem Ac{E:Value->Shared->Prop}{pins:List (Addr×Obj)}{s:Shared}{Z:St}{H:Hp}{x:Str}{u:Value}{pos:Pos}{Q:Value->Shared->Prop}(I:Inv X pins Z H s)(hg:Gl X x)(hm:X.mg x=some u)(h:Q u s)
  (hd:(x==("__debug__":Str))=false:=by decide):wpAny (model X.prog X.w) X.A (eval (.Name x pos) X.env) Q E s:=
 Calls.Name_function_global I.ok.kind hg (Calls.loadGlobal_global (by rw[I.ok.glob];exact I.mod.glob.keeps I.bk) hm h) hd
theorem Ek{E:Value->Shared->Prop}{pins:List (Addr×Obj)}{s:Shared}{Z:St}{H:Hp}{x:Str}{u:Value}{pos:Pos}{Q:Value->Shared->Prop}(I:Inv X pins Z H s)(hg:Gl X x)(hm:X.mg x=none)(hv:bootBuiltins x=some u)(h:Q u s)
  (hn:x ≠ "__name__":=by decide) (hd:(x==("__debug__":Str))=false:=by decide):wpAny (model X.prog X.w) X.A (eval (.Name x pos) X.env) Q E s:=by
 obtain⟨mb,h1,h2⟩:=I.mod.blt
 exact Calls.Name_function_global I.ok.kind hg (Calls.loadGlobal_builtin (by rw[I.ok.glob];exact I.mod.glob.keeps I.bk) hm (by rw[I.ok.blt];exact h1.keeps I.bk) ((h2 x hn).trans hv) h) hd
theorem Oe{x:Str}{v:V}{u:Value}{pos:Pos}(hg:Gl X x)(hm:X.mg x=some u)(r:RelV v u)(hd:(x==("__debug__":Str))=false:=by decide):PE X (.Name x pos) (tC v):=
 fun _ _ _ H _ I h=>Ac I hg hm ⟨v,H,I,r,h⟩ hd
theorem OE{x:Str}{v:V}{u:Value}{pos:Pos}(hg:Gl X x)(hm:X.mg x=none)(hv:bootBuiltins x=some u)(r:RelV v u)(hn:x ≠ "__name__":=by decide)(hd:(x==("__debug__":Str))=false:=by decide):PE X (.Name x pos) (tC v):=
 fun _ _ _ H _ I h=>Ek I hg hm hv ⟨v,H,I,r,h⟩ hn hd
variable {a b:Expr}{ta tb:TE}{pos:Pos}
noncomputable def PC(X:Cx)(op:CmpOp)(a b:Expr)(t:TE):Prop:=
 ∀(pins:List (Addr×Obj)) (s:Shared) (Z:St) (H:Hp) (Q:VK),Inv X pins Z H s->t Z H Q ->
  wpAny (model X.prog X.w) X.A (eval a X.env) (fun v cr=>wpAny (model X.prog X.w) X.A (eval b X.env) (fun u l'=>wpAny (model X.prog X.w) X.A (compareOp op v u) (EP X pins Z Q) X.xe l') X.xe cr) X.xe s
theorem Qc(b:Expr){op:CmpOp}(h:op≠.In)(h2:op≠.NotIn):behindInMarks op b=false:=by
 have e1:(op==CmpOp.In)=false:=by cases op<;>first|rfl|exact absurd rfl h
 have e2:(op==CmpOp.NotIn)=false:=by cases op<;>first|rfl|exact absurd rfl h2
 cases b<;>simp[behindInMarks,e1,e2]
noncomputable def tB(t:TE):TT:=fun Z H Q=>t Z H fun x H1=>∃c,x = .bl c/\Q c H1
theorem YZ{op:CmpOp}{t:TE}(h:PC X op a b t)(h1:behindInMarks op b=false:=by first|exact Qc _ ⋯ ⋯|rfl):PT X (.Compare a [op] [b] pos) (tB t):=by
 intro pins s Z H Q I hw
 refine wpAny_isTrue_Compare1 (thn (h pins s Z H _ I hw) fun v s1 h1=>thn h1 fun u s2 h2=>thn h2 fun c s3 ⟨x,H1,I1,r1,q1⟩=>?_) h1
 obtain⟨d,rfl,q⟩:=q1
 cases r1
 exact wpAny_truthy_bool ⟨H1,I1,q⟩
theorem UP{e:Expr}{t:TE}(h:PE X e t)(he:∀whole,isTrue e X.env whole=(do let v <- whole;standAt e.pos;holding [v] (truthy v)):=by intro _;rfl):PT X e (tB t):=by
 intro pins s Z H Q I hw
 refine isTrue_plain (thn (h pins s Z H _ I hw) fun v s1 ⟨x,H1,I1,r1,q1⟩=>?_) (he _)
 obtain⟨d,rfl,q⟩:=q1
 cases r1
 exact wpAny_truthy_bool ⟨H1,I1,q⟩
variable {tA tB':TT}{rest:List Expr}
noncomputable def YL(t u:TT):TT:=fun Z H Q=>t Z H fun c H1=>if c=true then u Z H1 Q else Q false H1
noncomputable def tOr(t u:TT):TT:=fun Z H Q=>t Z H fun c H1=>if c=true then Q true H1 else u Z H1 Q
noncomputable def Ym(t:TT):TT:=fun Z H Q=>t Z H fun c H1=>Q (!c) H1
theorem pw_and1(ha:PT X a tA):PW X (.BoolOp .And [a] pos) tA:=by
 intro wh pins s Z H Q I h
 refine isTrue_and (thn (ha pins s Z H Q I h) fun c s1 e=>?_)
 cases c with
 |true=>exact isTrue_and_nil e
 |false=>exact e
theorem pw_or1(ha:PT X a tA):PW X (.BoolOp .Or [a] pos) tA:=by
 intro wh pins s Z H Q I h
 refine isTrue_or (thn (ha pins s Z H Q I h) fun c s1 e=>?_)
 cases c with
 |false=>exact isTrue_or_nil e
 |true=>exact e
theorem pw_and(ha:PT X a tA)(hb:PW X (.BoolOp .And (b::rest) pos) tB'):PW X (.BoolOp .And (a::b::rest) pos) (YL tA tB'):=by
 intro wh pins s Z H Q I h
 refine isTrue_and (thn (ha pins s Z H _ I h) fun c s1 ⟨H1,I1,q1⟩=>?_)
 cases c with
 |true=>exact hb wh pins s1 Z H1 Q I1 q1
 |false=>exact⟨H1,I1,q1⟩
theorem pw_or(ha:PT X a tA)(hb:PW X (.BoolOp .Or (b::rest) pos) tB'):PW X (.BoolOp .Or (a::b::rest) pos) (tOr tA tB'):=by
 intro wh pins s Z H Q I h
 refine isTrue_or (thn (ha pins s Z H _ I h) fun c s1 ⟨H1,I1,q1⟩=>?_)
 cases c with
 |true=>exact⟨H1,I1,q1⟩
 |false=>exact hb wh pins s1 Z H1 Q I1 q1
theorem VW(ha:PT X a tA):PT X (.UnaryOp .Not a pos) (Ym tA):=by
 intro pins s Z H Q I h
 exact isTrue_not (ha pins s Z H (fun c H1=>Q (!c) H1) I h)
noncomputable def Xm(ta tb:TE):TE:=fun Z H Q=>ta Z H fun x H1=>∃c,x = .bl c/\if c=true then tb Z H1 Q else Q (.bl false) H1
noncomputable def XY(ta:TE):TE:=fun Z H Q=>ta Z H fun x H1=>∃c,x = .bl c/\Q (.bl (!c)) H1
theorem Wq{op}{t:TE}(h:PE X a t):PE X (.BoolOp op [a] pos) t:=fun pins s Z H Q I hw=>BoolOp_one (h pins s Z H Q I hw)
theorem Uv(ha:PE X a ta)(hb:PE X (.BoolOp .And (b::rest) pos) tb):PE X (.BoolOp .And (a::b::rest) pos) (Xm ta tb):=by
 intro pins s Z H Q I h
 refine BoolOp_and (thn (ha pins s Z H _ I h) fun v s1 ⟨x,H1,I1,r1,q1⟩=>?_)
 obtain⟨c,rfl,q1⟩:=q1
 cases r1
 refine wpAny_truthy_bool ?_
 cases c with
 |true=>exact hb pins s1 Z H1 Q I1 q1
 |false=>exact⟨.bl false,H1,I1,rfl,q1⟩
theorem UB(ha:PE X a ta):PE X (.UnaryOp .Not a pos) (XY ta):=by
 intro pins s Z H Q I h
 refine UnaryOp_ (thn (ha pins s Z H _ I h) fun v s1 ⟨x,H1,I1,r1,q1⟩=>?_)
 obtain⟨c,rfl,q1⟩:=q1
 cases r1
 exact not_of (wpAny_truthy_bool ⟨.bl (!c),H1,I1,rfl,q1⟩)
noncomputable def tIf(t:TT)(ta tb:TE):TE:=fun Z H Q=>t Z H fun c H1=>if c=true then ta Z H1 Q else tb Z H1 Q
theorem QY{c:Expr}(hc:PT X c tA)(ha:PE X a ta)(hb:PE X b tb):PE X (.IfExp c a b pos) (tIf tA ta tb):=by
 intro pins s Z H Q I h
 refine wpAny_IfExp (thn (hc pins s Z H _ I h) fun d s1 ⟨H1,I1,q1⟩=>?_)
 cases d with
 |true=>exact ha pins s1 Z H1 Q I1 q1
 |false=>exact hb pins s1 Z H1 Q I1 q1
end
end L2
namespace L2
open PySem PySem.Spec PyProof.Rows
noncomputable def SqL(K:PySem.W.Frag)(H:Hp)(a:Addr)(xs:List V):Prop:=
 Rd H a (.lst xs) \/
  ∃(o:Obj) (its:Array Value) (n:Nat),K.lookup a=some o/\o.cls = .type "list"/\o.dict=none/\o.data = .seq its n/\its.size<=sizeLine/\Vals xs its.toList
noncomputable def SqT(K:PySem.W.Frag)(H:Hp)(a:Addr)(xs:List V):Prop:=
 Rd H a (.tup xs) \/
  ∃(o:Obj) (its:Array Value) (n:Nat),K.lookup a=some o/\o.cls = .type "tuple"/\o.data = .seq its n/\its.size<=sizeLine/\Vals xs its.toList
def Yi:Value->Option V
 |.none=>some .non
 |.bool b=>some (.bl b)
 |.int i _=>some (.int i)
 |.str x _=>some (.str x)
 |.bytes b _=>some (.byt b)
 |.float b _=>some (.flt b)
 |.ref a=>some (.ref a)
 |.type n=>some (.ty n)
 |_=>none
theorem RelV.abs{x:V}{u:Value}(r:RelV x u):Yi u=some x:=by
 cases x with
 |non=>cases r;rfl
 |bl _=>cases r;rfl
 |int _=>obtain⟨t,rfl⟩:=r;rfl
 |str _=>obtain⟨t,rfl⟩:=r;rfl
 |byt _=>obtain⟨t,rfl⟩:=r;rfl
 |flt _=>obtain⟨t,rfl⟩:=r;rfl
 |ref _=>cases r;rfl
 |ty _=>cases r;rfl
theorem RelV.inj{x y:V}{u:Value}(r:RelV x u)(q:RelV y u):x=y:=Option.some.inj (r.abs.symm.trans q.abs)
theorem Vals.inj:∀{xs ys:List V} {us:List Value},Vals xs us->Vals ys us->xs=ys
 |_,_,_,.nil,.nil=>rfl
 |_,_,_,.cons r t,.cons r' t'=>by rw[r.inj r',Vals.inj t t']
section
variable {X:Cx}{pins:List (Addr×Obj)}{Z:St}{H:Hp}{s:Shared}{a:Addr}{xs ys:List V}
theorem SqL.of{K:PySem.W.Frag}(h:H a=some (.lst xs)):SqL K H a xs:=.inl (.inl h)
theorem SqT.of{K:PySem.W.Frag}(h:H a=some (.tup xs)):SqT K H a xs:=.inl (.inl h)
theorem Inv.list(I:Inv X pins Z H s)(h:SqL X.K H a xs):∃its:List Value,Vals xs its/\PlainL s.heap a its.toArray/\xs.length<=sizeLine:=by
 rcases h with h|⟨o,its,n,hk,hc,hd,hs,hz,r⟩
 ·obtain⟨z,its,n,r,e⟩:=h.ok I.hok
  exact⟨its,r,⟨_,n,e,rfl,rfl,rfl⟩,z⟩
 ·refine⟨its.toList,r,⟨o,n,I.kIn a o hk,hc,hd,by simpa using hs⟩,?_⟩
  have e:=r.length
  simp only[Array.length_toList] at e
  omega
theorem Inv.tuple(I:Inv X pins Z H s)(h:SqT X.K H a xs):∃its:List Value,Vals xs its/\IsTup s.heap a its.toArray/\xs.length<=sizeLine:=by
 rcases h with h|⟨o,its,n,hk,hc,hs,hz,r⟩
 ·obtain⟨z,its,r,p⟩:=h.ok I.hok
  exact⟨its,r,p,z⟩
 ·refine⟨its.toList,r,⟨o,I.kIn a o hk,hc,n,by simpa using hs⟩,?_⟩
  have e:=r.length
  simp only[Array.length_toList] at e
  omega
theorem Inv.Qp(I:Inv X pins Z H s)(h:SqL X.K H a xs)(h':SqL X.K H a ys):xs=ys:=by
 obtain⟨its,r,⟨o,n,e,_,_,d⟩,_⟩:=I.list h
 obtain⟨its',r',⟨o',n',e',_,_,d'⟩,_⟩:=I.list h'
 rw[e] at e';cases e'
 rw[d] at d'
 injection d' with d1 _
 have:its=its':=by simpa using congrArg Array.toList d1
 subst this
 exact r.inj r'
theorem Inv.O8(I:Inv X pins Z H s)(h:SqT X.K H a xs)(h':SqT X.K H a ys):xs=ys:=by
 obtain⟨its,r,⟨o,e,_,n,d⟩,_⟩:=I.tuple h
 obtain⟨its',r',⟨o',e',_,n',d'⟩,_⟩:=I.tuple h'
 rw[e] at e';cases e'
 rw[d] at d'
 injection d' with d1 _
 have:its=its':=by simpa using congrArg Array.toList d1
 subst this
 exact r.inj r'
end
abbrev Cx.DY(X:Cx)(E:Value->Shared->Prop):Cx:={X with xe:=E}
abbrev Cx.nox(X:Cx):Cx:=X.DY fun _ _=>False
theorem Cx.Ok.DY{X:Cx}(ok:X.Ok)(E:Value->Shared->Prop):(X.DY E).Ok:=
 ⟨ok.mod,ok.kind,ok.glob,ok.blt,ok.above,ok.inj,ok.has,ok.cab,ok.hd,ok.qt,ok.frames,ok.stk,ok.exf,ok.bs,ok.bsz,ok.Ih,ok.R4,ok.yU,ok.frf⟩
theorem Cx.Ok.uL{X:Cx}{E:Value->Shared->Prop}(ok:(X.DY E).Ok):X.Ok:=
 ⟨ok.mod,ok.kind,ok.glob,ok.blt,ok.above,ok.inj,ok.has,ok.cab,ok.hd,ok.qt,ok.frames,ok.stk,ok.exf,ok.bs,ok.bsz,ok.Ih,ok.R4,ok.yU,ok.frf⟩
section
variable {X:Cx}{pins:List (Addr×Obj)}{Z:St}{H:Hp}{s:Shared}{E:Value->Shared->Prop}
theorem Inv.DY(I:Inv X pins Z H s)(E:Value->Shared->Prop):Inv (X.DY E) pins Z H s:=⟨I.ok.DY E,I.os,I.bare,I.base,I.loc,I.cell,I.free,I.lJ,I.pin,I.hok,I.len⟩
theorem Inv.uL(I:Inv (X.DY E) pins Z H s):Inv X pins Z H s:=⟨I.ok.uL,I.os,I.bare,I.base,I.loc,I.cell,I.free,I.lJ,I.pin,I.hok,I.len⟩
theorem SP.uL{D:Ends}{f:Flow}{s':Shared}(h:SP (X.DY E) pins D f s'):SP X pins D f s':=by
 cases f with
 |next=>obtain⟨al,H',I,q⟩:=h;exact⟨al,H',I.uL,q⟩
 |brk=>obtain⟨al,H',I,q⟩:=h;exact⟨al,H',I.uL,q⟩
 |cont=>obtain⟨al,H',I,q⟩:=h;exact⟨al,H',I.uL,q⟩
 |ret u=>obtain⟨v,al,H',I,r,q⟩:=h;exact⟨v,al,H',I.uL,r,q⟩
theorem PSs.nox{st:List Stmt}{t:TS}(h:PSs X.nox st t):PSs X st t:=fun pins s Z H D I hw=>
 wpAny_mono (h pins s Z H D (I.DY _) hw) (fun _ _ q=>q.uL) fun _ _ z=>False.elim z
end
section
variable {X:Cx}{st:Stmt}{rest:List Stmt}{t u:TS}{e:Expr}{te:TE}{pos:Pos}
noncomputable def Xb:TS:=fun D Z H=>D.nx Z H
noncomputable def Xa(t u:TS):TS:=fun D Z H=>t {D with nx:=u D} Z H
theorem Sd:PSs X [] Xb:=fun _ _ Z H _ I h=>wpAny_execs_nil ⟨Z,H,I,h⟩
theorem Fq(h1:PS X st t)(h2:PSs X rest u):PSs X (st::rest) (Xa t u):=by
 intro pins s Z H D I h
 refine wpAny_execs_cons (thn (h1 pins s Z H {D with nx:=u D} I h) fun f s1 q=>?_)
 cases f with
 |next=>
  obtain⟨al,H',I',q⟩:=q
  exact h2 pins s1 al H' D I' q
 |ret v=>exact q
 |brk=>exact q
 |cont=>exact q
theorem Tx(h1:PS X st t):PSs X [st] t:=by
 intro pins s Z H D I h
 refine wpAny_execs_cons (thn (h1 pins s Z H D I h) fun f s1 q=>?_)
 cases f with
 |next=>exact wpAny_execs_nil q
 |ret v=>exact q
 |brk=>exact q
 |cont=>exact q
theorem Inv.quiet{pins:List (Addr×Obj)}{Z:St}{H:Hp}{s:Shared}(I:Inv X pins Z H s):interactive X.env=false:=by simp[interactive,I.ok.kind]
noncomputable def Xh(te:TE):TS:=fun D Z H=>te Z H fun _ H1=>D.nx Z H1
theorem OC(he:PE X e te)(hs:swapsWith e none pos.line X.env=pure false:=by rfl):PS X (.Expr e pos) (Xh te):=by
 intro pins s Z H D I h
 exact wpAny_Expr_any (thn (he pins s Z H _ I h) fun v s1 ⟨x,H1,I1,r1,q1⟩=>⟨Z,H1,I1,q1⟩) I.quiet hs
noncomputable def YC(te:TE):TS:=fun D Z H=>te Z H D.rt
theorem VY(he:PE X e te):PS X (.Return (some e) pos) (YC te):=by
 intro pins s Z H D I h
 exact wpAny_Return_some (thn (he pins s Z H _ I h) fun v s1 ⟨x,H1,I1,r1,q1⟩=>⟨x,Z,H1,I1,r1,q1⟩)
noncomputable def YJ(c:TT)(t u:TS):TS:=fun D Z H=>c Z H fun b H1=>if b=true then t D Z H1 else u D Z H1
theorem Um{c:Expr}{a b:List Stmt}{tc:TT}(hc:PT X c tc)(ha:PSs X a t)(hb:PSs X b u):PS X (.If c a b pos) (YJ tc t u):=by
 intro pins s Z H D I h
 refine wpAny_If (thn (hc pins s Z H _ I h) fun d s1 ⟨H1,I1,q1⟩=>?_)
 cases d with
 |true=>exact ha pins s1 Z H1 D I1 q1
 |false=>exact hb pins s1 Z H1 D I1 q1
noncomputable def We:TS:=fun _ _ _=>False
theorem G9{sts:List Stmt}:PSs X sts We:=fun _ _ _ _ _ _ h=>h.elim
end
abbrev TG:=V->St->Hp->(St->Hp->Prop)->Prop
abbrev TGs:=List V->St->Hp->(St->Hp->Prop)->Prop
noncomputable def PG(X:Cx)(target:Expr)(t:TG):Prop:=
 ∀(pins:List (Addr×Obj)) (s:Shared) (Z:St) (H:Hp) (v:V) (u:Value) (Q:St->Hp->Prop),Inv X pins Z H s->RelV v u->t v Z H Q ->
  wpAny (model X.prog X.w) X.A (assign target X.env u) (fun _ s'=>∃al H',Inv X pins al H' s'/\Q al H') X.xe s
noncomputable def PGs(X:Cx)(ts:List Expr)(t:TGs):Prop:=
 ∀(pins:List (Addr×Obj)) (s:Shared) (Z:St) (H:Hp) (vs:List V) (us:List Value) (Q:St->Hp->Prop),Inv X pins Z H s->Vals vs us->t vs Z H Q ->
  wpAny (model X.prog X.w) X.A (assignInOrder ((assignEach ts X.env).map (·.2)) us) (fun _ s'=>∃al H',Inv X pins al H' s'/\Q al H') X.xe s
abbrev Vy:=V->V->V->Hp->(Hp->Prop)->Prop
noncomputable def WJ(X:Cx)(t:Vy):Prop:=
 ∀(pins:List (Addr×Obj)) (s:Shared) (Z:St) (H:Hp) (o i v:V) (ov iv u:Value) (Q:Hp->Prop),Inv X pins Z H s->RelV o ov->RelV i iv->RelV v u->t o i v H Q ->
  wpAny (model X.prog X.w) X.A (setItem ov iv u) (fun _ s'=>∃H',Inv X pins Z H' s'/\Q H') X.xe s
abbrev TIp:=V->V->Hp->VK->Prop
noncomputable def PIp(X:Cx)(op:Operator)(t:TIp):Prop:=
 ∀(pins:List (Addr×Obj)) (s:Shared) (Z:St) (H:Hp) (x y:V) (v u:Value) (Q:VK),Inv X pins Z H s->RelV x v->RelV y u->t x y H Q ->
  wpAny (model X.prog X.w) X.A (inplaceOp op v u) (EP X pins Z Q) X.xe s
section
variable {X:Cx}{pos:Pos}
noncomputable def QM(i:Nat):TG:=fun v Z H Q=>Q (Z.set i (some v)) H
theorem Tq{i:Nat}{x:Str}(hN:X.N.Nodup)(hi:X.N[i]? = some x)(hx:Loc X.env.scope x)(hf:X.fn x=true\/X.env.scope.names.lookup x=some .local:=by first|exact .inl rfl|exact .inr rfl|assumption):PG X (.Name x pos) (QM i):=by
 intro pins s Z H v u Q I r h
 exact wpAny_assign_Name (qx I hN hi hx r (fun s' I'=>⟨_,H,I',h⟩) hf)
def YQ:TGs:=fun vs Z H Q=>vs=[]/\Q Z H
def X1(t:TG)(u:TGs):TGs:=fun vs Z H Q=>∃v r,vs=v::r/\t v Z H fun al H'=>u r al H' Q
theorem N2:PGs X [] YQ:=by
 intro pins s Z H vs us Q I r h
 obtain⟨e,h⟩:=h
 subst e
 cases r
 exact assignInOrder_nil ⟨Z,H,I,h⟩
theorem J7{e:Expr}{es:List Expr}{t:TG}{u:TGs}(h1:PG X e t)(h2:PGs X es u)
  (hs:(assignEach (e::es) X.env).map (·.2)=assign e X.env::(assignEach es X.env).map (·.2):=by rfl):PGs X (e::es) (X1 t u):=by
 intro pins s Z H vs us Q I r h
 obtain⟨v,vr,e1,h⟩:=h
 subst e1
 cases r with
 |cons r rr=>
  rw[hs]
  refine assignInOrder_cons (thn (h1 pins s Z H _ _ _ I r h) fun _ s1 ⟨nw,H1,I1,q1⟩=>?_)
  exact h2 pins s1 nw H1 _ _ Q I1 rr q1
noncomputable def Yk(K:PySem.W.Frag)(n:Nat)(t:TGs):TG:=fun v Z H Q=>∃a xs,v = .ref a/\SqT K H a xs/\xs.length=n/\t xs Z H Q
theorem RS{es:List Expr}{k:Nat}{t:TGs}{n:Nat}(hc:X.calm=X.calm)(h:PGs X es t)
  (hn:(assignEach es X.env).length=n:=by rfl) (hst:(assignEach es X.env).findIdx? (·.1)=none:=by rfl):PG X (.Tuple es k pos) (Yk X.K n t):=by
 intro pins s Z H v u Q I r hw
 obtain⟨a,xs,e1,hq,hl,hw⟩:=hw
 subst e1
 cases r
 obtain⟨its,rv,ht,hz⟩:=I.tuple hq
 refine GK I.MM ht (by simp[hn,<- hl,rv.length]) hst fun h' hx=>?_
 have I1:Inv X pins Z H {s with heap:=h'}:=I.kept (t':=s.toks) fun b o e=>hx b o (ne_of_lt (Heap.lt_size e)) e
 exact h pins _ Z H xs _ Q I1 (by simpa using rv) hw
noncomputable def YO(to ti:TE)(t:Vy):TG:=fun v Z H Q=>to Z H fun o H1=>ti Z H1 fun i H2=>t o i v H2 fun H3=>Q Z H3
theorem VQ{o i:Expr}{to ti:TE}{t:Vy}(ho:PE X o to)(hi:PE X i ti)(hs:WJ X t)
  (ha:∀v,assign (.Subscript o i pos) X.env v=(do
   let ov <- holding [v] (eval o X.env)
   let iv <- holding [v,ov] (eval i X.env)
   standAt pos
   holding [v,ov,iv] (setItem ov iv v)
   release [v,ov,iv] []):=by intro _;rfl):PG X (.Subscript o i pos) (YO to ti t):=by
 intro pins s Z H v u Q I r h
 rw[ha]
 refine wpAny_bind (wpAny_holding (thn (ho pins s Z H _ I h) fun ov s1 ⟨x,H1,I1,r1,q1⟩=>?_))
 refine wpAny_bind (wpAny_holding (thn (hi pins s1 Z H1 _ I1 q1) fun iv s2 ⟨y,H2,I2,r2,q2⟩=>?_))
 refine wpAny_bind (wpAny_standAt (wpAny_bind (wpAny_holding (thn (hs pins s2 Z H2 x y v ov iv u _ I2 r1 r2 r q2) fun _ s3 ⟨H3,I3,q3⟩=>?_))))
 exact wpAny_release ⟨Z,H3,I3,q3⟩
noncomputable def UI(te:TE)(g:TG):TS:=fun D Z H=>te Z H fun x H1=>g x Z H1 D.nx
theorem Wc{tg e:Expr}{te:TE}{g:TG}(he:PE X e te)(hg:PG X tg g)(hs:swapsWithSole [tg] e pos.line X.env=pure false:=by rfl)(hw:swappedStores [tg] e X.env=pure none:=by rfl)
  (h1:(assignEach [tg] X.env).map (·.2)=[assign tg X.env]:=by rfl):PS X (.Assign [tg] e pos) (UI te g):=by
 intro pins s Z H D I h
 refine wpAny_Assign_stores (thn (he pins s Z H _ I h) fun v s1 ⟨x,H1,I1,r1,q1⟩=>?_) hs hw
 rw[h1]
 exact thn (hg pins s1 Z H1 x v _ I1 r1 q1) fun _ s2 q=>q
theorem VZ{i:Nat}{x:Str}{e:Expr}{te:TE}{pos':Pos}(hN:X.N.Nodup)(hi:X.N[i]? = some x)(hx:Loc X.env.scope x)(he:PE X e te)(hs:swapsWith e (some (.Name x pos')) pos.line X.env=pure false:=by rfl)(hf:X.fn x=true\/X.env.scope.names.lookup x=some .local:=by first|exact .inl rfl|exact .inr rfl|assumption) :
  PS X (.Assign [.Name x pos'] e pos) (UI te (QM i)):=by
 intro pins s Z H D I h
 refine wpAny_Assign_Name (thn (he pins s Z H _ I h) fun v s1 ⟨y,H1,I1,r1,q1⟩=>?_) hs
 exact qx I1 hN hi hx r1 (fun s2 I2=>⟨_,H1,I2,q1⟩) hf
noncomputable def YA(i j:Nat)(ta:TA):TS:=fun D Z H=>ta Z H fun vs H1=>∃v w,vs=[v,w]/\D.nx ((Z.set i (some v)).set j (some w)) H1
theorem V2{i j:Nat}{x y:Str}{a b:Expr}{ta:TA}{px py pt:Pos}{kt k2 pt2}(hc:X.calm=true)(hN:X.N.Nodup)(hi:X.N[i]? = some x)(hj:X.N[j]? = some y)(hij:i≠j)
  (hx:X.env.scope.names.lookup x=some .local) (hy:X.env.scope.names.lookup y=some .local) (ha:PA X [a,b] ta)
  (hw:swappedStores [.Tuple [.Name x px,.Name y py] kt pt] (.Tuple [a,b] k2 pt2) X.env=pure (some [x,y]))
  (hs:swapsWithSole [.Tuple [.Name x px,.Name y py] kt pt] (.Tuple [a,b] k2 pt2) pos.line X.env=pure false:=by rfl) :
  PS X (.Assign [.Tuple [.Name x px,.Name y py] kt pt] (.Tuple [a,b] k2 pt2) pos) (YA i j ta):=by
 intro pins s Z H D I h
 rw[exec_Assign_arm]
 refine wpAny_bind (wpAny_standAt ?_)
 rw[hs]
 refine wpAny_bind (wpAny_pure ?_)
 rw[if_neg ⋯]
 refine wpAny_bind (Tuple_ (thn (ha _ pins s Z H _ I h) fun us s1 ⟨vs,H1,I1,r1,q1⟩=>?_))
 obtain⟨v,w,e1,q1⟩:=q1
 subst e1
 obtain⟨u1,u2,rfl,rv,rw'⟩:∃u1 u2,us=[u1,u2]/\RelV v u1/\RelV w u2:=by
  cases r1 with
  |cons p q=>
   cases q with
   |cons p' q'=>
    cases q'
    exact⟨_,_,rfl,p,p'⟩
 refine wpAny_newObj_type ?_ (by show 2<=sizeLine;decide)
 have I2:Inv X pins Z H1 {s1 with heap:=s1.heap.push {cls:=.type "tuple",data:=.seq [u1,u2].toArray}}:=I1.kept (t':=s1.toks) fun b o e=>Heap.get?_push_of_some _ e
 rw[hw]
 refine wpAny_bind (wpAny_pure ?_)
 show wpAny (model X.prog X.w) X.A (do rule "assign.swapped-stores";let items <- unpackItems (.ref s1.heap.objs.size) 2 none;assignInOrder [fun v=>bindName X.env y v,fun v=>bindName X.env x v] items.reverse;pure Flow.next) _ _ _
 refine wpAny_bind (wpAny_rule (wpAny_bind (unpackItems_tuple (items:=#[u1,u2]) (I.ok.hd hc) (IsTup.new s1.heap _) fun h' hx'=>?_)))
 have I3:=I2.kept (h':=h') (t':=s1.toks) fun b o e=>hx' b o (ne_of_lt (Heap.lt_size e)) e
 show wpAny _ _ (assignInOrder [fun v=>bindName X.env y v,fun v=>bindName X.env x v] [u2,u1]>>=fun _=>pure Flow.next) _ _ _
 refine wpAny_bind (assignInOrder_cons (wpAny_bindName (qx I3 hN hj (.inl hy) rw' (fun s2 I4=>?_) (.inr hy))))
 refine assignInOrder_cons (wpAny_bindName (qx I4 hN hi (.inl hx) rv (fun s3 I5=>assignInOrder_nil (wpAny_pure ?_)) (.inr hx)))
 rw[List.set_comm _ _ (Ne.symm hij)] at I5
 exact⟨_,H1,I5,q1⟩
noncomputable def YI(i:Nat)(te:TE)(ti:TIp):TS:=fun D Z H=>∃x,Z[i]? = some (some x)/\te Z H fun y H1=>ti x y H1 fun z H2=>D.nx (Z.set i (some z)) H2
theorem Vn{i:Nat}{x:Str}{e:Expr}{te:TE}{op:Operator}{ti:TIp}{pos':Pos}(hN:X.N.Nodup)(hi:X.N[i]? = some x)(hx:Loc X.env.scope x)(he:PE X e te)(ho:PIp X op ti)(hf:X.fn x=true\/X.env.scope.names.lookup x=some .local:=by first|exact .inl rfl|exact .inr rfl|assumption) :
  PS X (.AugAssign (.Name x pos') op e pos) (YI i te ti):=by
 intro pins s Z H D I h
 obtain⟨v,e1,h⟩:=h
 obtain⟨m,hn,hl⟩:=I.loc
 have vis:Vis X.env.scope x:=by rcases hx with k|k;exact .inl k;exact .inr (.inl k)
 obtain⟨u,r,l⟩:=hl i x v hi e1 vis
 refine wpAny_AugAssign_Name ?_
 have go:wpAny (model X.prog X.w) X.A (eval e X.env) (fun w l'=>wpAny (model X.prog X.w) X.A (inplaceOp op u w) (fun r bi=>wpAny (model X.prog X.w) X.A (storeName X.env x r) (fun _=>SP X pins D .next) X.xe bi) X.xe l') X.xe s:=by
  refine thn (he pins s Z H _ I h) fun w s1 ⟨y,H1,I1,r1,q1⟩=>?_
  refine thn (ho pins s1 Z H1 v y u w _ I1 r r1 q1) fun z s2 ⟨zv,H2,I2,r2,q2⟩=>?_
  exact qx I2 hN hi hx r2 (fun s3 I3=>⟨_,H2,I3,q2⟩) hf
 rcases l with ⟨hk,hm⟩|⟨hk,c,hc,hcell⟩
 ·exact wpAny_loadName_local I.ok.kind hk hn hm go
 ·rcases hk with hk|hk
  ·exact wpAny_loadName_cell I.ok.kind hk hc hcell go
  ·rcases hx with k|k
   ·have:X.env.scope.names.lookup x=some .free:=hk
    rw[k] at this;cases this
   ·have:X.env.scope.names.lookup x=some .free:=hk
    rw[k] at this;cases this
def ipI(f:Int->Int->Int):TIp:=fun x y H Q=>∃i j,x = .int i/\y = .int j/\Q (.int (f i j)) H
theorem Wh:PIp X .Add (ipI fun i j=>i+j):=by
 intro pins s Z H x y v u Q I r1 r2 h
 obtain⟨i,j,e1,e2,q⟩:=h
 subst e1;subst e2
 obtain⟨t,rfl⟩:=r1
 obtain⟨t',rfl⟩:=r2
 exact iadd_int ⟨.int _,H,I.tok _,⟨_,rfl⟩,q⟩
end
section
variable {X:Cx}{pos:Pos}
noncomputable def UA(c:TT)(tb:TS):TS:=fun D Z H=>∃W:Nat->St->Hp->Prop,(∃m,W m Z H)/\∀m Z H,W m Z H ->
 c Z H fun b H1=>if b=true then ∃N:St->Hp->Prop,(∀al H',N al H'->∃m',m'<m/\W m' al H')/\tb {D with nx:=N,ct:=N,bk:=D.nx} Z H1 else D.nx Z H1
theorem Qk{c:Expr}{body:List Stmt}{tc:TT}{tb:TS}(hp:PassesOwn (model X.prog X.w) X.A X.env X.xe)(hc:PT X c tc)(hb:PSs X body tb):PS X (.While c body [] pos) (UA tc tb):=by
 intro pins s Z H D I h
 obtain⟨W,⟨m0,w0⟩,turn⟩:=h
 refine wpAny_While (codeAny_whileLoop (fun n s'=>∃al H',Inv X pins al H' s'/\W n al H') ?_ m0 ⟨Z,H,I,w0⟩)
 rintro n s1 ⟨nw,H1,I1,w1⟩
 refine wpAny_passesOwn hp (thn (hc pins s1 nw H1 _ I1 (turn n nw H1 w1)) fun b s2 ⟨H2,I2,q2⟩=>?_)
 cases b with
 |true=>
  obtain⟨N,hN,q2⟩:=q2
  rw[if_pos rfl]
  refine wpAny_passesOwn hp (thn (hb pins s2 nw H2 _ I2 q2) fun f s3 q3=>?_)
  cases f with
  |next=>
   obtain⟨ms,H3,I3,n3⟩:=q3
   obtain⟨m',hm,w3⟩:=hN ms H3 n3
   exact⟨m',hm,ms,H3,I3,w3⟩
  |cont=>
   obtain⟨ms,H3,I3,n3⟩:=q3
   obtain⟨m',hm,w3⟩:=hN ms H3 n3
   exact⟨m',hm,ms,H3,I3,w3⟩
  |brk=>exact q3
  |ret v=>exact q3
 |false=>
  rw[if_neg Bool.false_ne_true]
  exact wpAny_execs_nil ⟨nw,H2,I2,q2⟩
end
structure It where
 go:Nat->Hp->Prop
 yld:Nat->Hp->V->Hp->Prop
 stop:Nat->Hp->Prop
noncomputable def C6(X:Cx)(pins:List (Addr×Obj))(H:Hp)(b:Addr):Prop:=
 H b=none/\b≠X.env.locals/\b ∉ X.fs/\(b∈X.ex\/X.dL.heap.objs.size<=b)/\(∀x c,X.env.cells.lookup x=some c->c≠b)/\∀p∈X.pn++pins,p.1≠b
theorem Inv.Q6{X:Cx}{pins:List (Addr×Obj)}{Z:St}{H H':Hp}{s:Shared}{b:Addr}(I:Inv X pins Z H s)(hb:s.heap.objs.size<=b)(hn:H' b=none):C6 X pins H' b:=by
 refine⟨hn,Nat.ne_of_gt (lt_of_lt_of_le I.lt hb),I.X3 hb,.inr (le_trans I.sz hb),fun x c e z=>?_,fun p hp z=>?_⟩
 ·obtain⟨v,q⟩:=I.cell x c e
  exact absurd (lt_of_lt_of_le q.lt (by rw[z];exact hb)) (lt_irrefl _)
 ·exact absurd (lt_of_lt_of_le (Heap.lt_size (I.pin p hp).1) (by rw[z];exact hb)) (lt_irrefl _)
structure Turn(c:Bool)(P:Program)(w:World)(K:PySem.W.Frag)(tg:Expr)(J:It)(fp:List Addr)(it:Addr)(tn:Nat->Heap->Prop):Prop where
 mem:it∈fp
 obj:∀i h,tn i h->∀b∈fp,∃o,h.get? b=some o/\∀v,o.data≠.cell v
 keep:∀i h h',tn i h->(∀b∈fp,∀o,h.get? b=some o->h'.get? b=some o)->tn i h'
 item:∀(X:Cx),X.prog=P->X.w=w->X.K=K->(c=true->X.calm=true)->∀(i:Nat) (pins:List (Addr×Obj)) (s:Shared) (Z:St) (H:Hp) (E:Value->Shared->Prop),Inv X pins Z H s->(∀b∈fp,C6 X pins H b)->tn i s.heap->J.go i H ->
  wpAny (model P w) X.A (pyNext (.ref it)) (fun r s1=>∃u,r=some u /\
   wpAny (model P w) X.A (letOwnedTupleGo tg (.ref it) u) (fun _ s2=>∃x H',Inv X pins Z H' s2/\RelV x u/\J.yld i H x H'/\tn (i+1) s2.heap/\∀b∈fp,H' b=none) E s1) E s
 done:∀(X:Cx),X.prog=P->X.w=w->X.K=K->(c=true->X.calm=true)->∀(i:Nat) (pins:List (Addr×Obj)) (s:Shared) (Z:St) (H:Hp) (E:Value->Shared->Prop),Inv X pins Z H s->(∀b∈fp,C6 X pins H b)->tn i s.heap->J.stop i H ->
  wpAny (model P w) X.A (pyNext (.ref it)) (fun r s1=>r=none/\Inv X pins Z H s1) E s
 self:∀(A:Around) (i:Nat) (s:Shared) (Q:Value->Shared->Prop) (E:Value->Shared->Prop),tn i s.heap->Q (.ref it) s->wpAny (model P w) A (pyIter (.ref it)) Q E s
theorem Turn.calm{c:Bool}{P:Program}{w:World}{K:PySem.W.Frag}{tg:Expr}{J:It}{fp:List Addr}{it:Addr}{tn:Nat->Heap->Prop}(T:Turn true P w K tg J fp it tn)(h:c=true):Turn c P w K tg J fp it tn:=by subst h;exact T
abbrev TI:=St->Hp->(It->Hp->Prop)->Prop
noncomputable def PIE(X:Cx)(pins:List (Addr×Obj))(Z:St)(tg:Expr)(R:It->Hp->Prop)(itv:Value)(s2:Shared):Prop:=
 ∃(it:Addr) (fp:List Addr) (tn:Nat->Heap->Prop) (J:It) (H':Hp),itv = .ref it/\Inv X pins Z H' s2/\Turn X.calm X.prog X.w X.K tg J fp it tn/\tn 0 s2.heap/\(∀b∈fp,C6 X pins H' b)/\R J H'
noncomputable def PI(X:Cx)(tg iter:Expr)(wi:TI):Prop:=
 ∀(pins:List (Addr×Obj)) (s:Shared) (Z:St) (H:Hp) (R:It->Hp->Prop),Inv X pins Z H s->wi Z H R ->
  wpAny (model X.prog X.w) X.A (eval iter X.env) (fun v s1=>wpAny (model X.prog X.w) X.A (pyIter v) (PIE X pins Z tg R) X.xe s1) X.xe s
theorem Q5{M:Model}{A:Around}{E:Value->Shared->Prop}{s:Shared}{tg:Expr}{it:Addr}{u:Value}{o:Obj}{n:String}{vs:Array Value}{Q:Unit->Shared->Prop}(ho:s.heap.get? it=some o)(hc:o.cls = .type n)(hd:o.data = .fields vs)
  (hn:["enumerate","zip","dict_itemiterator","dict_reverseitemiterator","odict_iterator","itertools.zip_longest","itertools.pairwise"].contains n=false) (hQ:Q () s):wpAny M A (letOwnedTupleGo tg (.ref it) u) Q E s:=by
 unfold letOwnedTupleGo
 cases tg<;>first
  |exact wpAny_pure hQ
  |(cases u<;>first
    |exact wpAny_pure hQ
    |(refine wpAny_bind (wpAny_load ho ?_)
      rw[hc,hd]
      show wpAny M A (if (["enumerate","zip","dict_itemiterator","dict_reverseitemiterator","odict_iterator","itertools.zip_longest","itertools.pairwise"].contains n&&vs[0]?==some (rawInt _))=true then _ else _) Q E s
      rw[if_neg (by intro h;rw[hn,Bool.false_and] at h;cases h)]
      exact wpAny_pure hQ))
def Itl(K:PySem.W.Frag)(a:Addr):It:=
 ⟨fun i H=>∃xs x,SqL K H a xs/\xs[i]? = some x,fun i H x H'=>H'=H/\∀xs,SqL K H a xs->xs[i]? = some x,fun i H=>∃xs,SqL K H a xs/\xs.length<=i⟩
def Itt(K:PySem.W.Frag)(a:Addr):It:=
 ⟨fun i H=>∃xs x,SqT K H a xs/\xs[i]? = some x,fun i H x H'=>H'=H/\∀xs,SqT K H a xs->xs[i]? = some x,fun i H=>∃xs,SqT K H a xs/\xs.length<=i⟩
def Itr(lo:Int)(n:Nat):It:=⟨fun i _=>i<n,fun i H x H'=>H'=H/\x = .int (lo+i),fun i _=>n<=i⟩
theorem PL{c:Bool}{P:Program}{w:World}{K:PySem.W.Frag}{tg:Expr}(a it:Addr):Turn c P w K tg (Itl K a) [it] it (fun i h=>h.IsListIter it a i) where
 mem:=by simp
 obj:=fun i h st b hb=>by
  have e:b=it:=by simpa using hb
  subst e
  obtain⟨o,e,c,d⟩:=st
  exact⟨o,e,fun v z=>by rw[d] at z;cases z⟩
 keep:=fun i h h' st k=>st.at fun o e=>k it (by simp) o e
 item:=by
  intro X hP hw hK hc i pins s Z H E I hf st hg
  subst hP hw hK
  obtain⟨xs,x,hq,hx⟩:=hg
  obtain⟨its,rv,p,hz⟩:=I.list hq
  obtain⟨u,hu,ru⟩:=rv.get hx
  obtain⟨f0,f1,f2,f3,f4,f5⟩:=hf it (by simp)
  refine wpAny_pyNext_list_item st p.isList (x:=u) (by simpa using hu) fun h' st' sb=>?_
  have I1:Inv X pins Z H {s with heap:=h'}:=I.turned (t':=s.toks) (fun b o hb e=>(sb.2 b hb).trans e) f0 f1 f3 f4 f5
  obtain⟨o,e,c,d⟩:=id st'
  exact⟨u,rfl,Q5 (s:={s with heap:=h'}) e c d ⋯ ⟨x,H,I1,ru,⟨rfl,fun ys hy=>by rw[I.Qp hy hq];exact hx⟩,st',fun b hb=>(hf b hb).1⟩⟩
 done:=by
  intro X hP hw hK hc i pins s Z H E I hf st hg
  subst hP hw hK
  obtain⟨xs,hq,hx⟩:=hg
  obtain⟨its,rv,p,hz⟩:=I.list hq
  obtain⟨f0,f1,f2,f3,f4,f5⟩:=hf it (by simp)
  have hl:=rv.length
  exact GL I.MM (I.hne f5) st p.isList (by simp;omega) fun h' eb=>⟨rfl,I.turned (t':=s.toks) (fun b o hb e=>eb b o hb e) f0 f1 f3 f4 f5⟩
 self:=fun _ _ _ _ _ st h=>wpAny_pyIter_listiter st h
theorem Nv{c:Bool}{P:Program}{w:World}{K:PySem.W.Frag}{tg:Expr}(a it:Addr):Turn c P w K tg (Itt K a) [it] it (fun i h=>h.IsTupleIter it a i) where
 mem:=by simp
 obj:=fun i h st b hb=>by
  have e:b=it:=by simpa using hb
  subst e
  obtain⟨o,e,c,d⟩:=st
  exact⟨o,e,fun v z=>by rw[d] at z;cases z⟩
 keep:=fun i h h' st k=>st.at fun o e=>k it (by simp) o e
 item:=by
  intro X hP hw hK hc i pins s Z H E I hf st hg
  subst hP hw hK
  obtain⟨xs,x,hq,hx⟩:=hg
  obtain⟨its,rv,p,hz⟩:=I.tuple hq
  obtain⟨u,hu,ru⟩:=rv.get hx
  obtain⟨f0,f1,f2,f3,f4,f5⟩:=hf it (by simp)
  refine wpAny_pyNext_tuple_item st (show s.heap.IsTuple a its.toArray from p) (x:=u) (by simpa using hu) fun h' st' sb=>?_
  have I1:Inv X pins Z H {s with heap:=h'}:=I.turned (t':=s.toks) (fun b o hb e=>(sb.2 b hb).trans e) f0 f1 f3 f4 f5
  obtain⟨o,e,c,d⟩:=id st'
  exact⟨u,rfl,Q5 (s:={s with heap:=h'}) e c d ⋯ ⟨x,H,I1,ru,⟨rfl,fun ys hy=>by rw[I.O8 hy hq];exact hx⟩,st',fun b hb=>(hf b hb).1⟩⟩
 done:=by
  intro X hP hw hK hc i pins s Z H E I hf st hg
  subst hP hw hK
  obtain⟨xs,hq,hx⟩:=hg
  obtain⟨its,rv,p,hz⟩:=I.tuple hq
  obtain⟨f0,f1,f2,f3,f4,f5⟩:=hf it (by simp)
  have hl:=rv.length
  exact Ah I.MM (I.hne f5) st (show s.heap.IsTuple a its.toArray from p) (by simp;omega) fun h' eb=>⟨rfl,I.turned (t':=s.toks) (fun b o hb e=>eb b o hb e) f0 f1 f3 f4 f5⟩
 self:=fun _ _ _ _ _ st h=>wpAny_pyIter_tupleiter st h
theorem Nq{P:Program}{w:World}{K:PySem.W.Frag}{tg:Expr}(it:Addr)(lo:Int)(n:Nat):Turn true P w K tg (Itr lo n) [it] it (fun i h=>IsRangeIter h it (lo+(i:Nat)*1) ((n:Int)-(i:Nat)) 1) where
 mem:=by simp
 obj:=fun i h st b hb=>by
  have e:b=it:=by simpa using hb
  subst e
  exact⟨_,st,fun v z=>by
   have z':Data.fields _=Data.cell v:=z
   cases z'⟩
 keep:=fun i h h' st k=>k it (by simp) _ st
 item:=by
  intro X hP hw hK hc i pins s Z H E I hf st hg
  subst hP hw hK
  obtain⟨f0,f1,f2,f3,f4,f5⟩:=hf it (by simp)
  have W:=Walks.range (prog:=X.prog) (w:=X.w) (I.ok.hd (hc rfl)) it lo 1 n
  refine W.item i s _ _ hg st fun v h' tk hv st' kk=>?_
  obtain⟨t,rfl⟩:=hv
  have I1:Inv X pins Z H {s with heap:=h',toks:=tk}:=I.turned (fun b o hb e=>kk b o (by simpa using hb) e) f0 f1 f3 f4 f5
  refine⟨_,rfl,Q5 (s:={s with heap:=h',toks:=tk}) (n:="range_iterator") st' rfl rfl ⋯ ⟨.int (lo+i),H,I1,⟨t,?_⟩,⟨rfl,rfl⟩,st',fun b hb=>(hf b hb).1⟩⟩
  rw[Int.mul_one]
 done:=by
  intro X hP hw hK hc i pins s Z H E I hf st hg
  subst hP hw hK
  obtain⟨f0,f1,f2,f3,f4,f5⟩:=hf it (by simp)
  exact wpAny_pyNext_range_end (I.ok.hd (hc rfl)) st (by have:n<=i:=hg;omega) fun h' eb=>⟨rfl,I.turned (t':=s.toks) (fun b o hb e=>eb b o hb e) f0 f1 f3 f4 f5⟩
 self:=fun _ _ _ _ _ st h=>wpAny_pyIter_rangeiter st h
end L2
namespace L2
open PySem PySem.Spec PyProof.Rows
section
variable {X:Cx}{tg:Expr}
noncomputable def WW(K:PySem.W.Frag)(tl:TE):TI:=fun Z H R=>tl Z H fun x H1=>∃a,x = .ref a/\(∃xs,SqL K H1 a xs)/\R (Itl K a) H1
noncomputable def Yd(K:PySem.W.Frag)(tl:TE):TI:=fun Z H R=>tl Z H fun x H1=>∃a,x = .ref a/\(∃xs,SqT K H1 a xs)/\R (Itt K a) H1
theorem Od{l:Expr}{tl:TE}(hl:PE X l tl):PI X tg l (WW X.K tl):=by
 intro pins s Z H R I h
 refine thn (hl pins s Z H _ I h) fun v s1 ⟨x,H1,I1,r1,q1⟩=>?_
 obtain⟨a,e,⟨xs,hq⟩,q⟩:=q1
 subst e
 cases r1
 obtain⟨its,rv,p,hz⟩:=I1.list hq
 refine wpAny_pyIter_list p.isList ?_
 refine⟨s1.heap.objs.size,[s1.heap.objs.size],_,_,H1,rfl,I1.kept (t':=s1.toks) fun b o e=>Heap.get?_push_of_some _ e,PL a _,⟨_,Heap.get?_push_size _ rfl,rfl,rfl⟩,fun b hb=>?_,q⟩
 have e:b=s1.heap.objs.size:=by simpa using hb
 subst e
 exact I1.Q6 (le_refl _) (I1.hok.fresh (le_refl _))
theorem UQ{l:Expr}{tl:TE}(hl:PE X l tl):PI X tg l (Yd X.K tl):=by
 intro pins s Z H R I h
 refine thn (hl pins s Z H _ I h) fun v s1 ⟨x,H1,I1,r1,q1⟩=>?_
 obtain⟨a,e,⟨xs,hq⟩,q⟩:=q1
 subst e
 cases r1
 obtain⟨its,rv,p,hz⟩:=I1.tuple hq
 refine wpAny_pyIter_tuple (show s1.heap.IsTuple a its.toArray from p) ?_
 refine⟨s1.heap.objs.size,[s1.heap.objs.size],_,_,H1,rfl,I1.kept (t':=s1.toks) fun b o e=>Heap.get?_push_of_some _ e,Nv a _,⟨_,Heap.get?_push_size _ rfl,rfl,rfl⟩,fun b hb=>?_,q⟩
 have e:b=s1.heap.objs.size:=by simpa using hb
 subst e
 exact I1.Q6 (le_refl _) (I1.hok.fresh (le_refl _))
theorem Lg(hc:X.calm=true){pins:List (Addr×Obj)}{Z:St}{H:Hp}{s:Shared}{R:It->Hp->Prop}{E:Value->Shared->Prop}{lo hi:Int}{t u v:Tok}{tk:Nat}(I:Inv X pins Z H s)(h1:-(2 ^ 62)<=lo)(h2:lo<2 ^ 62)(h3:-(2 ^ 62)<=hi)(h4:hi<2 ^ 62)
  (q:R (Itr lo (hi-lo).toNat) H):wpAny (model X.prog X.w) X.A (pyIter (.ref s.heap.objs.size)) (PIE X pins Z tg R) E {s with heap:=s.heap.push {cls:=.type "range",data:=.fields #[.int lo t,.int hi u,.int 1 v]},toks:=tk}:=by
 refine wpAny_pyIter_range (IsRange.new ..) (small_one h1 h2 h3 h4) ?_
 have I1:Inv X pins Z H {s with heap:=s.heap.push {cls:=.type "range",data:=.fields #[.int lo t,.int hi u,.int 1 v]},toks:=tk}:=I.kept fun b o e=>Heap.get?_push_of_some _ e
 refine⟨(s.heap.push {cls:=.type "range",data:=.fields #[.int lo t,.int hi u,.int 1 v]}).objs.size,[(s.heap.push {cls:=.type "range",data:=.fields #[.int lo t,.int hi u,.int 1 v]}).objs.size],_,_,H,rfl,
  I1.kept (t':=tk) fun b o e=>Heap.get?_push_of_some _ e,(Nq _ lo (hi-lo).toNat).calm hc,?_,fun b hb=>?_,q⟩
 ·have e1:lo+((0:Nat):Int)*1=lo:=by simp
  have e2:(((hi-lo).toNat:Nat):Int)-((0:Nat):Int)=Builtin.Range.rangeSize lo hi 1:=by rw[rangeSize_one];split<;>omega
  show IsRangeIter _ _ (lo+((0:Nat):Int)*1) ((((hi-lo).toNat:Nat):Int)-((0:Nat):Int)) 1
  rw[e1,e2]
  exact Heap.get?_push_size _ rfl
 ·have e:b=(s.heap.push {cls:=.type "range",data:=.fields #[.int lo t,.int hi u,.int 1 v]}).objs.size:=by simpa using hb
  subst e
  exact I1.Q6 (le_refl _) (I1.hok.fresh (le_refl _))
noncomputable def WT(ta:TA):TI:=fun Z H R=>ta Z H fun vs H1=>∃j:Int,vs=[.int j]/\-(2 ^ 62)<=j/\j<2 ^ 62/\R (Itr 0 j.toNat) H1
noncomputable def XJ(ta:TA):TI:=fun Z H R=>ta Z H fun vs H1=>∃i j:Int,vs=[.int i,.int j]/\(-(2 ^ 62)<=i/\i<2 ^ 62/\-(2 ^ 62)<=j/\j<2 ^ 62)/\R (Itr i (j-i).toNat) H1
theorem OQ{a:Expr}{ta:TA}{p pos:Pos}(hc:X.calm=true)(hg:Gl X "range")(hm:X.mg "range"=none)(ha:PA X [a] ta)(hs:starEach [a] X.env=[(false,eval a X.env)]:=by rfl):PI X tg (.Call (.Name "range" p) [a] [] pos) (WT ta):=by
 intro pins s Z H R I h
 refine Call_ (Ek I hg hm boot_range (PyProof.Rows.callWith_type1 (thn (ha pos pins s Z H _ I h) fun us s1 ⟨vs,H1,I1,r1,q1⟩=>?_) hs rfl))
 obtain⟨j,e,q1,q2,q⟩:=q1
 subst e
 cases r1 with
 |cons r rr=>
  cases rr
  obtain⟨t,rfl⟩:=r
  exact call_range_1 (Lg hc I1 ∅ ∅ q1 q2 (by simpa using q))
theorem PB{a b:Expr}{ta:TA}{p pos:Pos}(hc:X.calm=true)(hg:Gl X "range")(hm:X.mg "range"=none)(ha:PA X [a,b] ta)(hs:starEach [a,b] X.env=[(false,eval a X.env),(false,eval b X.env)]:=by rfl)(hs2:starEach [b] X.env=[(false,eval b X.env)]:=by rfl) :
  PI X tg (.Call (.Name "range" p) [a,b] [] pos) (XJ ta):=by
 intro pins s Z H R I h
 refine Call_ (Ek I hg hm boot_range (PyProof.Rows.callWith_type1 (thn (ha pos pins s Z H _ I h) fun us s1 ⟨vs,H1,I1,r1,q1⟩=>?_) (by rw[hs,hs2]) (by rw[hs2];rfl)))
 obtain⟨i,j,e,⟨q1,q2,q3,q4⟩,q⟩:=q1
 subst e
 cases r1 with
 |cons r rr=>
  cases rr with
  |cons r' rr=>
   cases rr
   obtain⟨t,rfl⟩:=r
   obtain⟨t',rfl⟩:=r'
   exact call_range_2 (Lg hc I1 q1 q2 q3 q4 q)
noncomputable def X5(wi:TI)(g:TG)(tb:TS):TS:=fun D Z H=>wi Z H fun J H1=>∃W:Nat->Nat->St->Hp->Prop,(∃m,W 0 m Z H1)/\∀i m Z H,W i m Z H ->
 (J.stop i H/\D.nx Z H)\/(J.go i H/\∃N:St->Hp->Prop,(∀al H',N al H'->∃m',m'<m/\W (i+1) m' al H')/\∀x H',J.yld i H x H'->g x Z H' fun sB H2=>tb {D with nx:=N,ct:=N,bk:=D.nx} sB H2)
def vK(fp:List Addr)(h:Heap):List (Addr×Obj):=fp.filterMap fun b=>(h.get? b).map fun o=>(b,o)
theorem eP{fp:List Addr}{h:Heap}{b:Addr}{o:Obj}(hb:b∈fp)(e:h.get? b=some o):(b,o)∈vK fp h:=List.mem_filterMap.mpr ⟨b,hb,by rw[e];rfl⟩
theorem O5{fp:List Addr}{h:Heap}{p:Addr×Obj}(hp:p∈vK fp h):p.1∈fp/\h.get? p.1=some p.2:=by
 obtain⟨b,hb,e⟩:=List.mem_filterMap.mp hp
 cases q:h.get? b with
 |none=>rw[q] at e;cases e
 |some o=>
  rw[q] at e
  have e':(b,o)=p:=Option.some.inj e
  subst e'
  exact⟨hb,q⟩
theorem Inv.pinned{pins:List (Addr×Obj)}{Z:St}{H:Hp}{s:Shared}{fp:List Addr}(I:Inv X pins Z H s)(hf:∀b∈fp,C6 X pins H b)(ho:∀b∈fp,∃o,s.heap.get? b=some o/\∀v,o.data≠.cell v):Inv X (pins++vK fp s.heap) Z H s:=
 I.OB fun p hp=>(List.mem_append.mp hp).elim (fun z=>I.pin p (mem_append_right _ z)) fun z=>by
  obtain⟨hb,e⟩:=O5 z
  obtain⟨f0,f1,f2,_⟩:=hf p.1 hb
  obtain⟨o,e',d⟩:=ho p.1 hb
  rw[e] at e';cases e'
  exact⟨e,f0,f1,f2,d⟩
theorem Inv.nY{pins pl:List (Addr×Obj)}{Z:St}{H:Hp}{s:Shared}(I:Inv X (pins++pl) Z H s):Inv X pins Z H s:=I.OB fun p hp=>I.pin p (mem_append_right _ (mem_append_left _ hp))
theorem VU{iter:Expr}{body:List Stmt}{wi:TI}{g:TG}{tb:TS}{pos:Pos}(hp:PassesOwn (model X.prog X.w) X.A X.env X.xe)(hc:X.calm=true)(hi:PI X tg iter wi)(hg:PG X tg g)(hb:PSs X body tb)
  (hs:∀x,foldedSetIterable iter X.env x=pure x:=by intro _;rfl):PS X (.For tg iter body [] pos) (X5 wi g tb):=by
 intro pins s Z H D I h
 refine wpAny_For (thn (hi pins s Z H _ I h) fun v s1 h1=>thn h1 fun itv s2 h2=>?_) hs
 obtain⟨it,fp,tn,J,H2,e,I2,T,st2,f2,W,⟨m0,w0⟩,turn⟩:=h2
 subst e
 have stat:∀{H':Hp},(∀b∈fp,H' b=none)->∀b∈fp,C6 X pins H' b:=fun hn b hb=>⟨hn b hb,(f2 b hb).2⟩
 refine codeAny_forLoop_any (fun n s'=>∃i al H',Inv X pins al H' s'/\tn i s'.heap/\(∀b∈fp,H' b=none)/\W i n al H') ?_ m0 ⟨0,Z,H2,I2,st2,fun b hb=>(f2 b hb).1,w0⟩
 rintro n s3 ⟨i,ms,H3,I3,st3,fr3,w3⟩
 rcases turn i n ms H3 w3 with ⟨stop,qn⟩|⟨go,N,hN,step⟩
 ·refine wpAny_passesOwn hp (thn (T.done X rfl rfl rfl (fun z=>z) i pins s3 ms H3 X.xe I3 (stat fr3) st3 stop) fun r s4 ⟨hr,I4⟩=>?_)
  subst hr
  exact wpAny_execs_nil ⟨ms,H3,I4,qn⟩
 ·refine wpAny_passesOwn hp (thn (T.item X rfl rfl rfl (fun z=>z) i pins s3 ms H3 X.xe I3 (stat fr3) st3 go) fun r s4 ⟨u,hr,h4⟩=>?_)
  subst hr
  refine wpAny_passesOwn hp (thn h4 fun _ s5 ⟨x,H5,I5,r5,y5,st5,fr5⟩=>?_)
  have I5':=I5.pinned (stat fr5) (T.obj _ _ st5)
  refine wpAny_passesOwn hp (thn (hg _ s5 ms H5 x u _ I5' r5 (step x H5 y5)) fun _ s6 ⟨gV,H6,I6,q6⟩=>?_)
  refine wpAny_passesOwn hp (thn (hb _ s6 gV H6 _ I6 q6) fun f s7 q7=>?_)
  have again:∀{mo:St} {H7:Hp},Inv X (pins++vK fp s5.heap) mo H7 s7->N mo H7->∃m,m<n/\∃i al H',Inv X pins al H' s7/\tn i s7.heap/\(∀b∈fp,H' b=none)/\W i m al H':=fun {mo H7} I7 n7=>by
   obtain⟨m',hm,w7⟩:=hN mo H7 n7
   refine⟨m',hm,i+1,mo,H7,I7.nY,T.keep _ _ _ st5 fun b hb o e=>(I7.pin (b,o) (mem_append_right _ (mem_append_right _ (eP hb e)))).1,fun b hb=>?_,w7⟩
   obtain⟨o,e,d⟩:=T.obj _ _ st5 b hb
   exact (I7.pin (b,o) (mem_append_right _ (mem_append_right _ (eP hb e)))).2.1
  cases f with
  |next=>obtain⟨mo,H7,I7,n7⟩:=q7;exact again I7 n7
  |cont=>obtain⟨mo,H7,I7,n7⟩:=q7;exact again I7 n7
  |brk=>obtain⟨mo,H7,I7,q7⟩:=q7;exact⟨mo,H7,I7.nY,q7⟩
  |ret v=>obtain⟨x7,mo,H7,I7,r7,q7⟩:=q7;exact⟨x7,mo,H7,I7.nY,r7,q7⟩
end
end L2
namespace L2
open PySem PySem.Spec PyProof.Rows
abbrev R2:=V->V->Hp->VK->Prop
noncomputable def OpR(X:Cx)(f:Value->Value->Sem Value)(r:R2):Prop:=
 ∀(pins:List (Addr×Obj)) (s:Shared) (Z:St) (H:Hp) (x y:V) (v u:Value) (Q:VK),Inv X pins Z H s->RelV x v->RelV y u->r x y H Q ->
  wpAny (model X.prog X.w) X.A (f v u) (EP X pins Z Q) X.xe s
noncomputable def UnR(X:Cx)(f:Value->Sem Value)(r:V->Hp->VK->Prop):Prop:=
 ∀(pins:List (Addr×Obj)) (s:Shared) (Z:St) (H:Hp) (x:V) (v:Value) (Q:VK),Inv X pins Z H s->RelV x v->r x H Q ->
  wpAny (model X.prog X.w) X.A (f v) (EP X pins Z Q) X.xe s
noncomputable def n8(X:Cx)(f:Value)(r:List V->Hp->VK->Prop):Prop:=
 ∀(pins:List (Addr×Obj)) (s:Shared) (Z:St) (H:Hp) (xs:List V) (us:List Value) (Q:VK),Inv X pins Z H s->Vals xs us->r xs H Q ->
  wpAny (model X.prog X.w) X.A (call f us) (EP X pins Z Q) X.xe s
noncomputable def YN(X:Cx)(r:V->Hp->(Bool->Hp->Prop)->Prop):Prop:=
 ∀(pins:List (Addr×Obj)) (s:Shared) (Z:St) (H:Hp) (x:V) (v:Value) (Q:Bool->Hp->Prop),Inv X pins Z H s->RelV x v->r x H Q ->
  wpAny (model X.prog X.w) X.A (truthy v) (TP X pins Z Q) X.xe s
noncomputable def tOp(r:R2)(ta tb:TE):TE:=fun Z H Q=>ta Z H fun x H1=>tb Z H1 fun y H2=>r x y H2 Q
noncomputable def tUn(r:V->Hp->VK->Prop)(ta:TE):TE:=fun Z H Q=>ta Z H fun x H1=>r x H1 Q
noncomputable def rI(C:Int->Int->Prop)(g:Int->Int->V):R2:=fun x y H Q=>∃i j,x = .int i/\y = .int j/\C i j/\Q (g i j) H
noncomputable def rI0(g:Int->Int->V):R2:=fun x y H Q=>∃i j,x = .int i/\y = .int j/\Q (g i j) H
def rU(g:Int->V):V->Hp->VK->Prop:=fun x H Q=>∃i,x = .int i/\Q (g i) H
section
variable {X:Cx}{a b c:Expr}{ta tb tc:TE}{pos:Pos}
theorem VS(ha:PE X a ta)(hb:PE X b tb){pins:List (Addr×Obj)}{s:Shared}{Z:St}{H:Hp}{R:V->V->Hp->Prop}(I:Inv X pins Z H s)
  (h:ta Z H fun x H1=>tb Z H1 fun y H2=>R x y H2) {Q:Value->Shared->Prop} {f:Value->Value->Sem Value}
  (hf:∀v u s2 x y H2,Inv X pins Z H2 s2->RelV x v->RelV y u->R x y H2->wpAny (model X.prog X.w) X.A (f v u) Q X.xe s2) :
  wpAny (model X.prog X.w) X.A (eval a X.env) (fun v cr=>wpAny (model X.prog X.w) X.A (eval b X.env) (fun u l'=>wpAny (model X.prog X.w) X.A (f v u) Q X.xe l') X.xe cr) X.xe s:=by
 refine thn (ha pins s Z H _ I h) fun v s1 ⟨x,H1,I1,r1,q1⟩=>?_
 refine thn (hb pins s1 Z H1 _ I1 q1) fun u s2 ⟨y,H2,I2,r2,q2⟩=>?_
 exact hf v u s2 x y H2 I2 r1 r2 q2
theorem W6{op:Operator}{r:R2}(ho:OpR X (binaryOp op) r)(ha:PE X a ta)(hb:PE X b tb):PE X (.BinOp a op b pos) (tOp r ta tb):=by
 intro pins s Z H Q I h
 exact wpAny_BinOp (VS ha hb I h fun v u s2 x y H2 I2 rx ry q=>ho pins s2 Z H2 x y v u Q I2 rx ry q)
theorem Xq{op:UnaryOp}{r:V->Hp->VK->Prop}(ho:UnR X (unaryOp op) r)(ha:PE X a ta):PE X (.UnaryOp op a pos) (tUn r ta):=by
 intro pins s Z H Q I h
 exact UnaryOp_ (thn (ha pins s Z H _ I h) fun v s1 ⟨x,H1,I1,r1,q1⟩=>ho pins s1 Z H1 x v Q I1 r1 q1)
theorem opI{f:Value->Value->Sem Value}{C:Int->Int->Prop}{g:Int->Int->Int}
  (rule:∀(i j:Int) (t u:Tok) (s:Shared) (Q:Value->Shared->Prop) (E:Value->Shared->Prop),C i j->Q (.int (g i j) s.toks) {s with toks:=s.toks+1}->wpAny (model X.prog X.w) X.A (f (.int i t) (.int j u)) Q E s) :
  OpR X f (rI C fun i j=>.int (g i j)):=by
 intro pins s Z H x y v u Q I rx ry h
 obtain⟨i,j,rfl,rfl,hc,q⟩:=h
 obtain⟨t,rfl⟩:=rx
 obtain⟨t',rfl⟩:=ry
 exact rule i j t t' s _ _ hc ⟨.int (g i j),H,I.tok _,⟨_,rfl⟩,q⟩
theorem XI{f:Value->Value->Sem Value}{g:Int->Int->Int}
  (rule:∀(i j:Int) (t u:Tok) (s:Shared) (Q:Value->Shared->Prop) (E:Value->Shared->Prop),Q (.int (g i j) s.toks) {s with toks:=s.toks+1}->wpAny (model X.prog X.w) X.A (f (.int i t) (.int j u)) Q E s) :
  OpR X f (rI0 fun i j=>.int (g i j)):=by
 intro pins s Z H x y v u Q I rx ry h
 obtain⟨i,j,rfl,rfl,q⟩:=h
 obtain⟨t,rfl⟩:=rx
 obtain⟨t',rfl⟩:=ry
 exact rule i j t t' s _ _ ⟨.int (g i j),H,I.tok _,⟨_,rfl⟩,q⟩
theorem SS{f:Value->Value->Sem Value}{g:Int->Int->Bool}
  (rule:∀(i j:Int) (t u:Tok) (s:Shared) (Q:Value->Shared->Prop) (E:Value->Shared->Prop),Q (.bool (g i j)) s->wpAny (model X.prog X.w) X.A (f (.int i t) (.int j u)) Q E s) :
  OpR X f (rI0 fun i j=>.bl (g i j)):=by
 intro pins s Z H x y v u Q I rx ry h
 obtain⟨i,j,rfl,rfl,q⟩:=h
 obtain⟨t,rfl⟩:=rx
 obtain⟨t',rfl⟩:=ry
 exact rule i j t t' s _ _ ⟨.bl (g i j),H,I,rfl,q⟩
noncomputable def Wb(i j:Int):Prop:=0<=j/\j<=1000000/\i.natAbs<2 ^ 64
noncomputable def Sx(i j:Int):Prop:=(-(2 ^ 64)<i/\i<2 ^ 64)\/(-(2 ^ 64)<j/\j<2 ^ 64)
theorem Sx.ok{i j:Int}(h:Sx i j):IntMulOk i j:=by
 rcases h with ⟨h1,h2⟩|⟨h1,h2⟩
 ·exact .of_left (intBits_le_64 h1 h2)
 ·exact .of_right (intBits_le_64 h1 h2)
theorem Ri:OpR X (binaryOp .Add) (rI0 fun i j=>.int (i+j)):=XI fun _ _ _ _ _ _ _ q=>add_int q
theorem VO:OpR X (binaryOp .Sub) (rI0 fun i j=>.int (i-j)):=XI fun _ _ _ _ _ _ _ q=>sub_int q
theorem Tf:OpR X (binaryOp .Mod) (rI (fun _ j=>j≠0) fun i j=>.int (i.fmod j)):=opI fun _ _ _ _ _ _ _ hc q=>mod_int' hc q
theorem VJ:OpR X (binaryOp .Pow) (rI Wb fun i j=>.int (i ^ j.toNat)):=opI fun _ _ _ _ _ _ _ hc q=>pow_int_small hc.1 hc.2.1 hc.2.2 q
theorem unI{f:Value->Sem Value}{g:Int->Int}
  (rule:∀(i:Int) (t:Tok) (s:Shared) (Q:Value->Shared->Prop) (E:Value->Shared->Prop),Q (.int (g i) s.toks) {s with toks:=s.toks+1}->wpAny (model X.prog X.w) X.A (f (.int i t)) Q E s) :
  UnR X f (rU fun i=>.int (g i)):=by
 intro pins s Z H x v Q I rx h
 obtain⟨i,rfl,q⟩:=h
 obtain⟨t,rfl⟩:=rx
 exact rule i t s _ _ ⟨.int (g i),H,I.tok _,⟨_,rfl⟩,q⟩
theorem Wo:UnR X (unaryOp .USub) (rU fun i=>.int (-i)):=unI fun _ _ _ _ _ q=>neg_int q
end
section
variable {X:Cx}{a b c:Expr}{ta tb tc:TE}{pos:Pos}
theorem tK:OpR X (compareOp .Lt) (rI0 fun i j=>.bl (decide (i<j))):=SS fun _ _ _ _ _ _ _ q=>lt_int q
theorem Cy:OpR X (compareOp .LtE) (rI0 fun i j=>.bl (decide (i<=j))):=SS fun _ _ _ _ _ _ _ q=>le_int q
theorem lM:OpR X (compareOp .Gt) (rI0 fun i j=>.bl (decide (j<i))):=SS fun _ _ _ _ _ _ _ q=>gt_int q
theorem Cr:OpR X (compareOp .GtE) (rI0 fun i j=>.bl (decide (j<=i))):=SS fun _ _ _ _ _ _ _ q=>ge_int q
theorem OpR.or{f:Value->Value->Sem Value}{r r':R2}(h:OpR X f r)(h':OpR X f r'):OpR X f (fun x y H Q=>r x y H Q\/r' x y H Q):=by
 intro pins s Z H x y v u Q I rx ry q
 rcases q with q|q
 ·exact h pins s Z H x y v u Q I rx ry q
 ·exact h' pins s Z H x y v u Q I rx ry q
theorem aM(b:Expr){op:CmpOp}(h:op≠.In:=by decide)(h2:op≠.NotIn:=by decide):behindInMarks op b=false:=by
 have e1:(op==CmpOp.In)=false:=by cases op<;>first|rfl|exact absurd rfl h
 have e2:(op==CmpOp.NotIn)=false:=by cases op<;>first|rfl|exact absurd rfl h2
 cases b<;>simp[behindInMarks,e1,e2]
theorem SU{op:CmpOp}{r:R2}(ho:OpR X (compareOp op) r)(ha:PE X a ta)(hb:PE X b tb)(hm:behindInMarks op b=false):PE X (.Compare a [op] [b] pos) (tOp r ta tb):=by
 intro pins s Z H Q I h
 exact wpAny_Compare1 (VS ha hb I h fun v u s2 x y H2 I2 rx ry q=>ho pins s2 Z H2 x y v u Q I2 rx ry q) hm
noncomputable def RD(t:TE):TT:=fun Z H Q=>t Z H fun x H'=>∃k,x = .bl k/\Q k H'
theorem TH{op:CmpOp}{r:R2}(ho:OpR X (compareOp op) r)(ha:PE X a ta)(hb:PE X b tb)(hm:behindInMarks op b=false):PT X (.Compare a [op] [b] pos) (RD (tOp r ta tb)):=by
 intro pins s Z H Q I h
 refine wpAny_isTrue_Compare1 (thn (ha pins s Z H _ I h) fun v s1 ⟨x,H1,I1,r1,q1⟩=>thn (hb pins s1 Z H1 _ I1 q1) fun u s2 ⟨y,H2,I2,r2,q2⟩=>
  thn (ho pins s2 Z H2 x y v u _ I2 r1 r2 q2) fun c s3 ⟨z,H3,I3,r3,k,e,q3⟩=>?_) hm
 subst e
 cases r3
 exact wpAny_truthy_bool ⟨H3,I3,q3⟩
noncomputable def Rq(r r':R2)(ta tb tc:TE):TE:=fun Z H Q=>ta Z H fun x H1=>tb Z H1 fun y H2=>r x y H2 fun z H3=>∃k,z = .bl k /\
 (if k=true then tc Z H3 fun w' H4=>r' y w' H4 Q else Q (.bl false) H3)
theorem QZ{op op':CmpOp}{r r':R2}(ho:OpR X (compareOp op) r)(ho':OpR X (compareOp op') r')(ha:PE X a ta)(hb:PE X b tb)(hc:PE X c tc)
  (hm:lastMarks [op,op'] [b,c]=false:=by with_unfolding_all rfl):PE X (.Compare a [op,op'] [b,c] pos) (Rq r r' ta tb tc):=by
 intro pins s Z H Q I h
 refine Compare_chain (thn (ha pins s Z H _ I h) fun v s1 ⟨x,H1,I1,r1,q1⟩=>chain_link (thn (hb pins s1 Z H1 _ I1 q1) fun u s2 ⟨y,H2,I2,r2,q2⟩=>
  thn (ho pins s2 Z H2 x y v u _ I2 r1 r2 q2) fun d s3 ⟨z,H3,I3,r3,k,e,q3⟩=>?_)) hm
 subst e
 cases r3
 refine wpAny_truthy_bool ?_
 cases k with
 |false=>exact ite_ff ⟨.bl false,H3,I3,rfl,q3⟩
 |true=>exact ite_tt (chain_last (thn (hc pins s3 Z H3 _ I3 q3) fun w' s4 ⟨z',H4,I4,r4,q4⟩=>ho' pins s4 Z H4 y z' u w' Q I4 r2 r4 q4))
theorem RJ{op op':CmpOp}{r r':R2}(ho:OpR X (compareOp op) r)(ho':OpR X (compareOp op') r')(ha:PE X a ta)(hb:PE X b tb)(hc:PE X c tc)
  (hm:lastMarks [op,op'] [b,c]=false:=by with_unfolding_all rfl):PT X (.Compare a [op,op'] [b,c] pos) (RD (Rq r r' ta tb tc)):=by
 intro pins s Z H Q I h
 refine isTrue_chain (thn (ha pins s Z H _ I h) fun v s1 ⟨x,H1,I1,r1,q1⟩=>test_link (thn (hb pins s1 Z H1 _ I1 q1) fun u s2 ⟨y,H2,I2,r2,q2⟩=>
  thn (ho pins s2 Z H2 x y v u _ I2 r1 r2 q2) fun d s3 ⟨z,H3,I3,r3,k,e,q3⟩=>?_)) hm
 subst e
 cases r3
 refine wpAny_truthy_bool ?_
 cases k with
 |false=>
  obtain⟨k',e',q'⟩:=q3
  cases e'
  exact ite_ff ⟨H3,I3,q'⟩
 |true=>
  refine ite_tt (test_last (thn (hc pins s3 Z H3 _ I3 q3) fun w' s4 ⟨z',H4,I4,r4,q4⟩=>thn (ho' pins s4 Z H4 y z' u w' _ I4 r2 r4 q4) fun d' s5 ⟨z2,H5,I5,r5,k2,e2,q5⟩=>?_))
  subst e2
  cases r5
  exact wpAny_truthy_bool ⟨H5,I5,q5⟩
noncomputable def Wy(K:PySem.W.Frag)(x:V)(H:Hp)(k:Bool):Prop:=
 match x with
 |.non=>k=false
 |.bl b=>k=b
 |.int i=>k=(i != 0)
 |.str y=>y.length<=sizeLine/\k=((y.length:Int) != 0)
 |.byt y=>y.size<=sizeLine/\k=((y.size:Int) != 0)
 |.ref p=>(∃xs,SqL K H p xs/\k = !xs.isEmpty)\/(∃xs,SqT K H p xs/\k = !xs.isEmpty)\/∃kvs,H p=some (.dK kvs)/\k = !kvs.isEmpty
 |_=>False
theorem NI{κ:Type}{kvs:List (κ×V)}{vs:List (κ×Value)}(r:KV kvs vs):(!vs.isEmpty) = !kvs.isEmpty:=by
 cases r<;>rfl
theorem Eb{xs:List V}{its:List Value}(r:Vals xs its):(!its.toArray.isEmpty) = !xs.isEmpty:=by
 cases r<;>simp
theorem Bx:(sizeLine:Nat)<2 ^ 63:=by rw[sizeLine_eq];decide
theorem VG:YN X (fun x H Q=>∃k,Wy X.K x H k/\Q k H):=by
 intro pins s Z H x v Q I rx h
 obtain⟨k,e,q⟩:=h
 have hl:=Bx
 have hs:sizeLine=16777216:=sizeLine_eq
 cases x with
 |non=>
  cases rx
  have e':k=false:=e
  subst e'
  exact truthy_none ⟨H,I,q⟩
 |bl b=>
  cases rx
  have e':k=b:=e
  subst e'
  exact wpAny_truthy_bool ⟨H,I,q⟩
 |int i=>
  obtain⟨t,rfl⟩:=rx
  have e':k=(i != 0):=e
  subst e'
  exact PySem.P.truthy_int ⟨H,I,q⟩
 |str y=>
  obtain⟨t,rfl⟩:=rx
  obtain⟨hy,e'⟩:y.length<=sizeLine/\k=((y.length:Int) != 0):=e
  subst e'
  exact PySem.P.truthy_str ∅ ⟨H,I.tok _,q⟩
 |byt y=>
  obtain⟨t,rfl⟩:=rx
  obtain⟨hy,e'⟩:y.size<=sizeLine/\k=((y.size:Int) != 0):=e
  subst e'
  exact PySem.W.truthy_bytes ∅ ⟨H,I.tok _,q⟩
 |ref p=>
  cases rx
  have e':(∃xs,SqL X.K H p xs/\k = !xs.isEmpty)\/(∃xs,SqT X.K H p xs/\k = !xs.isEmpty)\/∃kvs,H p=some (.dK kvs)/\k = !kvs.isEmpty:=e
  rcases e' with ⟨xs,hx,e'⟩|⟨xs,hx,e'⟩|⟨kvs,hx,e'⟩
  ·subst e'
   obtain⟨its,r,pl,hz⟩:=I.list hx
   have hlen:=r.length
   exact wpAny_truthy_list pl.isList (by simp only[size_toArray];omega) ⟨H,I.tok _,by rw[Eb r];exact q⟩
  ·subst e'
   obtain⟨its,r,pl,hz⟩:=I.tuple hx
   have hlen:=r.length
   exact truthy_tuple pl (by simp only[size_toArray];omega) ⟨H,I.tok _,by rw[Eb r];exact q⟩
  ·subst e'
   obtain⟨hz,hS,vs,r,m⟩:kvs.length<=sizeLine/\(p==sysModules)=false/\∃vs,KV kvs vs/\s.heap.DictOf (JL X.prog X.w) p vs:=I.hok p _ hx
   have hlen:kvs.length=vs.length:=Paired.length r
   exact wpAny_truthy_dict hS m ∅ ⟨H,I.tok _,by rw[NI r];exact q⟩
 |_=>exact (show False from e).elim
theorem QJ(ha:PE X a ta)(he:∀whole,isTrue a X.env whole=(do let v <- whole;standAt a.pos;holding [v] (truthy v))) :
  PT X a (fun Z H Q=>ta Z H fun x H'=>∃k,Wy X.K x H' k/\Q k H'):=by
 intro pins s Z H Q I h
 exact isTrue_plain (thn (ha pins s Z H _ I h) fun v s1 ⟨x,H1,I1,r1,q1⟩=>VG pins s1 Z H1 x v Q I1 r1 q1) (he _)
theorem vals1{x:V}{us:List Value}(r:Vals [x] us):∃u,us=[u]/\RelV x u:=by
 cases r with
 |cons r1 r2=>cases r2;exact⟨_,rfl,r1⟩
theorem vals2{x y:V}{us:List Value}(r:Vals [x,y] us):∃u w',us=[u,w']/\RelV x u/\RelV y w':=by
 cases r with
 |cons r1 r2=>
  cases r2 with
  |cons r3 r4=>cases r4;exact⟨_,_,rfl,r1,r3⟩
theorem PU:n8 X (.builtin "abs") (fun xs H Q=>∃i,xs=[.int i]/\Q (.int (if i<0 then -i else i)) H):=by
 intro pins s Z H xs us Q I r h
 obtain⟨i,rfl,q⟩:=h
 obtain⟨u,rfl,t,rfl⟩:=vals1 r
 exact call_abs_int fun u tk=>⟨.int (if i<0 then -i else i),H,I.tok _,⟨_,rfl⟩,q⟩
theorem O7(hc:X.calm=true):n8 X (.builtin "max") (fun xs H Q=>∃i j,xs=[.int i,.int j]/\Q (.int (if j>i then j else i)) H):=by
 intro pins s Z H xs us Q I r h
 obtain⟨i,j,rfl,q⟩:=h
 obtain⟨u,w',rfl,⟨t,rfl⟩,⟨t',rfl⟩⟩:=vals2 r
 refine max_two_ints (I.ok.hd hc) fun h' tk k=>⟨_,H,I.kept k,?_,q⟩
 by_cases hj:j>i
 ·rw[if_pos hj,if_pos hj];exact⟨_,rfl⟩
 ·rw[if_neg hj,if_neg hj];exact⟨_,rfl⟩
theorem Pe(hc:X.calm=true):n8 X (.builtin "min") (fun xs H Q=>∃i j,xs=[.int i,.int j]/\Q (.int (if j<i then j else i)) H):=by
 intro pins s Z H xs us Q I r h
 obtain⟨i,j,rfl,q⟩:=h
 obtain⟨u,w',rfl,⟨t,rfl⟩,⟨t',rfl⟩⟩:=vals2 r
 refine min_two_ints (I.ok.hd hc) fun h' tk k=>⟨_,H,I.kept k,?_,q⟩
 by_cases hj:j<i
 ·rw[if_pos hj,if_pos hj];exact⟨_,rfl⟩
 ·rw[if_neg hj,if_neg hj];exact⟨_,rfl⟩
theorem OY:n8 X (.type "int") (fun xs H Q=>(∃i,xs=[.int i]/\Q (.int i) H)\/∃k,xs=[.bl k]/\Q (.int (if k then 1 else 0)) H):=by
 intro pins s Z H xs us Q I r h
 rcases h with ⟨i,rfl,q⟩|⟨k,rfl,q⟩
 ·obtain⟨u,rfl,t,rfl⟩:=vals1 r
  exact call_int_int ⟨.int i,H,I,⟨_,rfl⟩,q⟩
 ·obtain⟨u,rfl,r1⟩:=vals1 r
  cases r1
  exact call_int_bool ⟨.int (if k then 1 else 0),H,I.tok _,⟨_,rfl⟩,q⟩
end
end L2
namespace L2
open PySem PySem.Spec PyProof.Rows
end L2
namespace L2
open PySem PySem.Spec PyProof.Rows
structure j5(k:Nat)(A:Around):Prop where
 hd:A.handled=none
 dp:A.depth+3*k+5<recursionLimit
 un:A.units+16*k+200<cLine
theorem j5.mono{j k:Nat}{A:Around}(r:j5 k A)(h:j<=k):j5 j A:=⟨r.hd,by have:=r.dp;omega,by have:=r.un;omega⟩
theorem j5.deeper{k:Nat}{A:Around}(r:j5 (k+1) A)(env:Env):j5 k (A.deeper env):=
 ⟨r.hd,by have:=r.dp;show A.depth+1+3*k+5<_;omega,by have:=r.un;show A.units+3+16*k+200<_;omega⟩
theorem j5.depth{k:Nat}{A:Around}(r:j5 k A):A.depth<recursionLimit:=by have:=r.dp;omega
theorem j5.units{k:Nat}{A:Around}(r:j5 k A):A.units+64<cLine:=by have:=r.un;omega
noncomputable def Wx:TA:=fun _ H Q=>Q [] H
noncomputable def Ug(ta:TE)(tr:TA):TA:=fun Z H Q=>ta Z H fun x H1=>tr Z H1 fun xs H2=>Q (x::xs) H2
section
variable {X:Cx}{e:Expr}{es:List Expr}{te:TE}{t:TA}{pos:Pos}
theorem we:PA X [] Wx:=fun _ _ _ _ H Q I h=>Calls.spliced_nil ⟨[],H,I,.nil,h⟩
theorem kX(ha:PE X e te)(hr:PA X es t)(hs:starEach (e::es) X.env=(false,eval e X.env)::starEach es X.env:=by rfl):PA X (e::es) (Ug te t):=by
 intro pos pins s Z H Q I h
 rw[hs]
 show wpAny _ _ (spliced ((false,eval e X.env)::backTo pos (starEach es X.env))) _ _ s
 refine Calls.spliced_cons (thn (ha pins s Z H _ I h) fun u s1 ⟨x,H1,I1,r1,q1⟩=>?_)
 exact thn (hr pos pins s1 Z H1 _ I1 q1) fun us s2 ⟨xs,H2,I2,r2,q2⟩=>⟨x::xs,H2,I2,.cons r1 r2,q2⟩
noncomputable def Yv(t:TA):TE:=fun Z H Q=>t Z H fun xs H1=>xs.length<=sizeLine/\∀p,H1 p=none->Q (.ref p) (upd H1 p (.tup xs))
noncomputable def YV(t:TA):TE:=fun Z H Q=>t Z H fun xs H1=>xs.length<=sizeLine/\∀p,H1 p=none->Q (.ref p) (upd H1 p (.lst xs))
theorem Rv{x1}(h:PA X es t):PE X (.Tuple es x1 pos) (Yv t):=by
 intro pins s Z H Q I hq
 refine wpAny_Tuple_spliced (thn (h pos pins s Z H _ I hq) fun us s1 ⟨xs,H1,I1,r,z,q⟩=>⟨by rw[<- r.length];exact z,?_⟩)
 have hf:H1 s1.heap.objs.size=none:=I1.hok.fresh (le_refl _)
 refine⟨.ref s1.heap.objs.size,upd H1 s1.heap.objs.size (.tup xs),I1.laid (t':=s1.toks) (fun b u e=>Heap.get?_push_of_some _ e) (le_refl _) ?_,rfl,q _ hf⟩
 exact⟨z,us,r,⟨_,Heap.get?_push_size _ rfl,rfl,_,rfl⟩⟩
theorem Qx(h:PA X es t):PE X (.List es pos) (YV t):=by
 intro pins s Z H Q I hq
 refine wpAny_List_spliced (thn (h pos pins s Z H _ I hq) fun us s1 ⟨xs,H1,I1,r,z,q⟩=>⟨by rw[<- r.length];exact z,?_⟩)
 have hf:H1 s1.heap.objs.size=none:=I1.hok.fresh (le_refl _)
 refine⟨.ref s1.heap.objs.size,upd H1 s1.heap.objs.size (.lst xs),I1.laid (t':=s1.toks) (fun b u e=>Heap.get?_push_of_some _ e) (le_refl _) ?_,rfl,q _ hf⟩
 exact⟨z,us,0,r,Heap.get?_push_size _ rfl⟩
end
abbrev Sp:=List V->Hp->VK->XK->Prop
abbrev CXT:=List Env->Hp->Shared->XK->Value->Shared->Prop
structure Lm(P:Program)(w:World)(K:PySem.W.Frag)(mg:Str->Option Value)(base:Heap)(A:Around)(outer:List Env)(s:Shared)(H:Hp):Prop where
 frames:A.frames=some outer
 mod:Mod K mg base
 bs:∀b o,base.get? b=some o->s.heap.get? b=some o/\H b=none
 bsz:base.objs.size<=s.heap.objs.size
 yU:s.heap.FunFrames base outer
 frf:∀b∈frs outer,H b=none
 hok:HOk P w H s.heap
 bare:AllBare s.gens
noncomputable def CE(outer:List Env)(P:Program)(w:World)(H:Hp)(s:Shared)(Q:VK)(u:Value)(s':Shared):Prop:=
 ∃v H',s'.os=s.os/\AllBare s'.gens/\Un (frs outer) [] H H' s.heap s'.heap/\HOk P w H' s'.heap/\RelV v u/\Q v H'
noncomputable def CR(CX:CXT)(outer:List Env)(P:Program)(w:World)(H:Hp)(s:Shared)(Q:VK)(E:XK)(r:Result)(s':Shared):Prop:=
 match r with
 |.ok (.ret u)=>CE outer P w H s Q u s'
 |.ok _=>False
 |.error e=>CX outer H s E e s'
structure bO(P:Program)(w:World)(K:PySem.W.Frag)(mg:Str->Option Value)(base:Heap)(CX:CXT)(k:Nat)(f:Addr)(fd:FuncData)(ps:List Str)(sp:Sp):Prop where
 len:∀vs H Q E,sp vs H Q E->vs.length=ps.length
 run:∀(A:Around) (outer:List Env) (s:Shared) (H:Hp) (args:Args) (us:List Value) (vs:List V) (Q:VK) (E:XK),j5 k A->Lm P w K mg base A outer s H->BindsTo s fd args (ps.zip us)->Vals vs us->sp vs H Q E ->
  codeAny (model P w) A (.call (.ref f) args) (CR CX outer P w H s Q E) s
section
variable {X:Cx}{pins:List (Addr×Obj)}{Z:St}{H:Hp}{s s':Shared}
theorem Inv.VP(I:Inv X pins Z H s):Lm X.prog X.w X.K X.mg X.base X.A X.stack s H:=
 ⟨I.ok.frames,I.ok.mod,I.bs,le_trans I.ok.bsz I.sz,I.stack,I.xw,I.hok,I.bare⟩
theorem Inv.after{Q:VK}{u:Value}(I:Inv X pins Z H s)(h:CE X.stack X.prog X.w H s Q u s'):EP X pins Z Q u s':=by
 obtain⟨v,H',os,bare,un,hok,r,q⟩:=h
 obtain⟨hh,g,d,t,os'⟩:=s'
 obtain rfl:os'=s.os:=os
 exact⟨v,H',I.call (h':=hh) (g':=g) (d':=d) (t':=t) (ch:=[]) un hok bare (fun b z=>absurd z (by simp)),r,q⟩
end
noncomputable def Xi(sp:Sp)(dvs:List V)(E:XK)(t:TA):TE:=fun Z H Q=>t Z H fun vs H1=>sp (vs++dvs) H1 Q E
noncomputable def Binds(K:PySem.W.Frag)(fd:FuncData)(ps:List Str)(ds:List Value):Prop:=
 ∀(s:Shared) (us:List Value),K.In s.heap->(us++ds).length=ps.length->BindsTo s fd ⟨us,[]⟩ (ps.zip (us++ds))
theorem Binds.all{K:PySem.W.Frag}{fd:FuncData}{ps:List Str}(h:∀us:List Value,us.length=ps.length->bindArgs fd ⟨us,[]⟩=pure (ps.zip us)):Binds K fd ps []:=fun s us _ hl=>by
 rw[List.append_nil] at hl ⊢
 exact .of_eq (h us hl)
noncomputable def Passes(CX:CXT)(X:Cx)(E:XK):Prop:=∀(pins:List (Addr×Obj)) (Z:St) (H:Hp) (s:Shared) (e:Value) (s':Shared),Inv X pins Z H s->CX X.stack H s E e s'->X.xe e s'
section
variable {X:Cx}{CX:CXT}{k:Nat}{f C:Addr}{fd:FuncData}{ps:List Str}{sp:Sp}{dvs:List V}{ds:List Value}{E:XK}{x m:Str}{p pos apos:Pos}{e o:Expr}{es:List Expr}{ta:TE}{t:TA}
theorem VV{pins:List (Addr×Obj)}{Z:St}{H:Hp}{s:Shared}{Q:VK}{us:List Value}{vs:List V}(F:bO X.prog X.w X.K X.mg X.base CX k f fd ps sp)(hr:j5 k X.A)(hb:Binds X.K fd ps ds)(hd:Vals dvs ds)(hx:Passes CX X E)
  (I:Inv X pins Z H s) (r:Vals vs us) (h:sp (vs++dvs) H Q E):wpAny (model X.prog X.w) X.A (call (.ref f) us) (EP X pins Z Q) X.xe s:=by
 have r2:Vals (vs++dvs) (us++ds):=r.append hd
 have hl:(us++ds).length=ps.length:=by rw[<- r2.length];exact F.len _ _ _ _ h
 refine wpAny_call (codeAny_mono (F.run X.A X.stack s H ⟨us,[]⟩ (us++ds) (vs++dvs) Q E hr I.VP (hb s us I.kIn hl) r2 h) fun r s' hq=>?_)
 cases r with
 |error e=>exact hx pins Z H s e s' I hq
 |ok fl=>
  cases fl with
  |ret u=>exact I.after hq
  |next=>exact False.elim hq
  |brk=>exact False.elim hq
  |cont=>exact False.elim hq
theorem NV(F:bO X.prog X.w X.K X.mg X.base CX k f fd ps sp)(hr:j5 k X.A)(hg:Gl X x)(hm:X.mg x=some (.ref f))(hk:keepIn X.K (.ref f)=true)(hb:Binds X.K fd ps ds)(hd:Vals dvs ds)(hx:Passes CX X E)
  (ha:PA X (e::es) t) (hdb:(x==("__debug__":Str))=false:=by decide) (he:starEach (e::es) X.env=(false,eval e X.env)::starEach es X.env:=by rfl) (hpl:(backTo pos (starEach es X.env)).any (·.1)=false:=by rfl) :
  PE X (.Call (.Name x p) (e::es) [] pos) (Xi sp dvs E t):=by
 intro pins s Z H Q I h
 refine wpAny_Call_Name_kw (Ac I hg hm ?_ hdb)
 refine PySem.W.callWith_K (h₀:=X.base) I.ok.mod.kin hk (thn (ha pos pins s Z H _ I h) fun us s1 ⟨vs,H1,I1,r,q⟩=>⟨I1.kIn,?_⟩) he hpl
 exact VV F hr hb hd hx I1 r q
end
structure aN(N P:List Str)(sc:Scope):Prop where
 kind:sc.kind = .function
 co:sc.isCoroutine=false
 gen:sc.isGenerator=false
 nd:N.Nodup
 pre:N.take P.length=P
 par:∀x∈P,sc.names.lookup x=some .local\/sc.names.lookup x=some .cell
 Vk:∀y∈sc.names,y.2≠.free
theorem Hh{kindOf:Str->Option NameKind}{x:Str}:∀{binds:List (Str×Value)} {m:Str->Option Value},(∀v,(x,v) ∉ binds)->bindL kindOf binds m x=m x
 |[],_,_=>rfl
 |(n,v)::r,m,h=>by
  unfold bindL
  rw[Hh fun w hw=>h w (mem_cons_of_mem _ hw)]
  split
  ·have:x≠n:=by rintro rfl;exact h v mem_cons_self
   simp[this]
  ·rfl
theorem Hv{kindOf:Str->Option NameKind}{x:Str}:∀{binds:List (Str×Value)} {m:Str->Option Value},(∀v,(x,v) ∉ binds)->bindC kindOf binds m x=m x
 |[],_,_=>rfl
 |(n,v)::r,m,h=>by
  unfold bindC
  rw[Hv fun w hw=>h w (mem_cons_of_mem _ hw)]
  split
  ·rfl
  ·have:x≠n:=by rintro rfl;exact h v mem_cons_self
   simp[this]
theorem He{kindOf:Str->Option NameKind}{x:Str}{v:Value}:∀{P:List Str} {vs:List Value} {i:Nat} {m:Str->Option Value},P.Nodup->P[i]? = some x->vs[i]? = some v->kindOf x=some .local ->
  bindL kindOf (P.zip vs) m x=some v
 |[],_,_,_,_,h,_,_=>by simp at h
 |_::_,[],_,_,_,_,h,_=>by simp at h
 |p::P,w::vs,0,m,nd,h1,h2,hk=>by
  simp at h1 h2;subst h1;subst h2
  show bindL kindOf ((p,w)::P.zip vs) m p=_
  unfold bindL
  rw[Hh fun v hv=>(List.nodup_cons.mp nd).1 (List.of_mem_zip hv).1,if_pos hk]
  simp
 |p::P,w::vs,i+1,m,nd,h1,h2,hk=>by
  show bindL kindOf ((p,w)::P.zip vs) m x=_
  unfold bindL
  exact He (i:=i) (List.nodup_cons.mp nd).2 (by simpa using h1) (by simpa using h2) hk
theorem G1{kindOf:Str->Option NameKind}{x:Str}{v:Value}:∀{P:List Str} {vs:List Value} {i:Nat} {m:Str->Option Value},P.Nodup->P[i]? = some x->vs[i]? = some v->kindOf x≠some .local ->
  bindC kindOf (P.zip vs) m x=some v
 |[],_,_,_,_,h,_,_=>by simp at h
 |_::_,[],_,_,_,_,h,_=>by simp at h
 |p::P,w::vs,0,m,nd,h1,h2,hk=>by
  simp at h1 h2;subst h1;subst h2
  show bindC kindOf ((p,w)::P.zip vs) m p=_
  unfold bindC
  rw[Hv fun v hv=>(List.nodup_cons.mp nd).1 (List.of_mem_zip hv).1,if_neg hk]
  simp
 |p::P,w::vs,i+1,m,nd,h1,h2,hk=>by
  show bindC kindOf ((p,w)::P.zip vs) m x=_
  unfold bindC
  exact G1 (i:=i) (List.nodup_cons.mp nd).2 (by simpa using h1) (by simpa using h2) hk
def start(N:List Str)(vs:List V):St:=vs.map some++List.replicate (N.length-vs.length) none
def rQ(CX:CXT)(P:Program)(w:World)(K:PySem.W.Frag)(mg:Str->Option Value)(base:Heap)(N:List Str)(qual:Str)(scope:Scope)(f:Addr)(cd:Value)(A:Around)(outer:List Env)(s:Shared)(H:Hp)(E:XK):Cx where
 prog:=P
 w:=w
 K:=K
 mg:=mg
 base:=base
 A:=A.deeper (envOfC qual scope s.heap.objs.size f cd)
 N:=N
 dL:=s
 H₀:=H
 env:=envOfC qual scope s.heap.objs.size f cd
 outer:=outer
 stack:=envOfC qual scope s.heap.objs.size f cd::outer
 ex:=[]
 calm:=true
 fn:=fun _=>true
 pn:=[]
 xe:=fun e s'=>wpAny (model P w) (A.deeper (envOfC qual scope s.heap.objs.size f cd)) (leaving (envOfC qual scope s.heap.objs.size f cd) e) (fun _ s''=>CX outer H s E e s'') (fun e' s''=>CX outer H s E e' s'') s'
theorem LD{sc:Scope}{n:Nat}{x:Str}(h:sc.names.lookup x=some .cell):∃c,(cellsFrom n sc.names []).lookup x=some c:=by
 have q:=PySem.W.cellsFrom_some sc.names n [] (.inl h)
 exact Option.isSome_iff_exists.mp q
theorem Hk{CX:CXT}{P:Program}{w:World}{K:PySem.W.Frag}{mg:Str->Option Value}{base:Heap}{N ps:List Str}{qual:Str}{scope:Scope}{f:Addr}{cd:Value}{A:Around}{outer:List Env}{s s1:Shared}{H:Hp}{E:XK}{us:List Value}{vs:List V}
  (S:aN N ps scope) (hd:A.handled=none) (e0:Lm P w K mg base A outer s H) (hl:vs.length=ps.length) (r:Vals vs us)
  (x:InCallC s s.heap.objs.size (bindL (envOfC qual scope s.heap.objs.size f cd).kindOf (ps.zip us) fun _=>none) (cellsFrom (s.heap.objs.size+1) scope.names []) (bindC (envOfC qual scope s.heap.objs.size f cd).kindOf (ps.zip us) fun _=>none) s1) :
  Inv (rQ CX P w K mg base N qual scope f cd A outer s H E) [] (start N vs) H s1:=by
 have hpl:ps.length<=N.length:=by have:=congrArg List.length S.pre;rw[length_take] at this;omega
 obtain⟨h1,tk,rfl,hk⟩:=x.done
 have noA:∀b:Addr,b ∉ (rQ CX P w K mg base N qual scope f cd A outer s H E).ex:=fun b z=>absurd (show b∈([]:List Addr) from z) (by simp)
 refine⟨⟨e0.mod,S.kind,rfl,rfl,le_refl _,fun y z c h1 h2=>?_,fun y hy=>?_,fun y c _ h=>?_,fun _=>hd,.inl hd,Around.frames_deeper e0.frames,.inr ⟨rfl,rfl⟩,fun b z=>absurd z (noA b),e0.bs,e0.bsz,fun b _ _=>noA b,fun b z=>absurd z (noA b),e0.yU,e0.frf⟩,
  rfl,e0.bare,Un.kept hk,⟨_,x.toInCall.ns,fun i y v h1 h2 h3=>?_⟩,fun y c h=>⟨_,x.cell y c h⟩,e0.hok.fresh (le_refl _),fun y c h=>?_,fun p hp=>absurd (show p∈([]:List (Addr×Obj)) from hp) (by simp),e0.hok.kept hk,?_⟩
 ·exact name_of_addr x.apart (mem_of_lookup h1) (mem_of_lookup h2)
 ·have hy:scope.names.lookup y=some .cell\/scope.names.lookup y=some .free:=hy
  rcases hy with hy|hy
  ·exact LD hy
  ·exact absurd rfl (S.Vk _ (mem_of_lookup hy))
 ·exact Nat.le_of_lt (x.above y c (mem_of_lookup h))
 ·have hi:i<vs.length:=by
   unfold start at h2
   by_cases hi:i<vs.length
   ·exact hi
   ·rw[List.getElem?_append_right (by simpa using hi)] at h2
    rw[List.getElem?_replicate] at h2
    split at h2<;>cases h2
  have ha:vs[i]? = some v:=by
   unfold start at h2
   rw[getElem?_append_left (by simpa using hi),getElem?_map] at h2
   cases e:vs[i]? with
   |none=>rw[e] at h2;cases h2
   |some a=>rw[e] at h2;cases h2;rfl
  obtain⟨u,hu,rv⟩:=r.get ha
  have hp:ps[i]? = some y:=by
   rw[<- S.pre,List.getElem?_take_of_lt ∅];exact h1
  have ndP:ps.Nodup:=by rw[<- S.pre];exact S.nd.sublist (List.take_sublist _ _)
  refine⟨u,rv,?_⟩
  rcases S.par y (mem_of_getElem? hp) with k|k
  ·exact .inl ⟨k,He ndP hp hu k⟩
  ·obtain⟨c,e⟩:=LD (n:=s.heap.objs.size+1) k
   refine .inr ⟨.inl k,c,e,?_⟩
   have q:=x.cell y c e
   rw[G1 ndP hp hu (by show scope.names.lookup y≠_;rw[k];decide)] at q
   exact q
 ·exact e0.hok.fresh (Nat.le_of_lt (x.above y c (mem_of_lookup h)))
 ·unfold start
  show _=N.length
  rw[length_append,length_map,List.length_replicate]
  omega
theorem R7{CX:CXT}{P:Program}{w:World}{K:PySem.W.Frag}{mg:Str->Option Value}{base:Heap}{k:Nat}{f:Addr}{name qual:Str}{params:Arguments}{body:List Stmt}{scope:Scope}{dV kV doc pm cdv ct oc:Value}{an od:Option Addr}
  {osl:Array (Option Value)} {N ps:List Str} {sp:Sp} (lk:K.lookup f=some ⟨oc,od,.func (fnOf name qual params body scope dV kV doc pm an cdv ct),osl⟩) (hcd:codeIn K cdv qual=true) (S:aN N ps scope)
  (len:∀vs H Q E,sp vs H Q E->vs.length=ps.length)
  (hbody:∀(A:Around) (outer:List Env) (s:Shared) (H:Hp) (vs:List V) (Q:VK) (E:XK),j5 k (A.deeper (envOfC qual scope s.heap.objs.size f cdv))->sp vs H Q E ->
   ∃t,PSs (rQ CX P w K mg base N qual scope f cdv A outer s H E) body t/\t {nx:=fun _ H'=>Q .non H',rt:=Q} (start N vs) H) :
  bO P w K mg base CX (k+1) f (fnOf name qual params body scope dV kV doc pm an cdv ct) ps sp:=by
 refine⟨len,fun A outer s H args us vs Q E hr e0 hb r hsp=>?_⟩
 have hl:=len _ _ _ _ hsp
 have KX:K.In s.heap:=e0.mod.kin.keeps fun b o e=>(e0.bs b o e).1
 have lim:s.heap.NoLimit:=e0.mod.nolimit.keeps fun b o e=>(e0.bs b o e).1
 have hkind:∀y∈ps.zip us,scope.names.lookup y.1=some .local\/(scope.names.lookup y.1=some .cell/\((cellsFrom (s.heap.objs.size+1) scope.names []).lookup y.1).isSome=true):=fun ⟨n,v⟩ hy=>by
  rcases S.par n (List.of_mem_zip hy).1 with q|q
  ·exact .inl q
  ·exact .inr ⟨q,PySem.W.cellsFrom_some _ _ _ (.inl q)⟩
 refine codeAny_call_function hr.depth (KX _ _ lk) rfl S.co S.gen rfl (PySem.W.codeRec_of KX hcd) (hb _ _ _ _ ?_)
 refine wpAny_newFunctionEnv_cells S.kind hkind fun env he s1 x=>?_
 subst he
 refine⟨lim.keeps x.toInCall.keep,codeAny_func ?_⟩
 obtain⟨t,ht,hq⟩:=hbody A outer s H vs Q E (hr.deeper _) hsp
 have I:Inv (rQ CX P w K mg base N qual scope f cdv A outer s H E) [] (start N vs) H s1:=Hk S hr.hd e0 hl r x
 refine wpAny_mono (ht [] s1 (start N vs) H _ I hq) (fun fl s' hs=>?_) fun e s' hs=>hs
 have fin:∀{al:St} {H':Hp} {v:V} {u:Value},Inv (rQ CX P w K mg base N qual scope f cdv A outer s H E) [] al H' s'->RelV v u->Q v H'->CE outer P w H s Q u s':=
  fun {al H' v u} J rv q=>⟨v,H',J.os,J.bare,J.base,J.hok,rv,q⟩
 cases fl with
 |ret u=>
  obtain⟨v,al,H',J,rv,q⟩:=hs
  exact fin J rv q
 |next=>
  obtain⟨al,H',J,q⟩:=hs
  exact fin (v:=V.non) (u:=Value.none) J rfl q
 |brk=>
  obtain⟨_,_,_,q⟩:=hs
  exact False.elim q
 |cont=>
  obtain⟨_,_,_,q⟩:=hs
  exact False.elim q
end L2
namespace L2
open PySem PySem.Spec PyProof.Rows
section
variable {X:Cx}{x:Str}{p pos:Pos}{e:Expr}{es:List Expr}{t:TA}{id T:String}{r:List V->Hp->VK->Prop}
noncomputable def tCB(r:List V->Hp->VK->Prop)(t:TA):TE:=fun Z H Q=>t Z H fun vs H1=>r vs H1 Q
theorem zL(hc:n8 X (.builtin id) r)(hg:Gl X x)(hm:X.mg x=none)(hv:bootBuiltins x=some (.builtin id))(ha:PA X (e::es) t)(hn:x ≠ "__name__":=by decide)(hdb:(x==("__debug__":Str))=false:=by decide)
  (he:starEach (e::es) X.env=(false,eval e X.env)::starEach es X.env:=by rfl) (hpl:(backTo pos (starEach es X.env)).any (·.1)=false:=by rfl):PE X (.Call (.Name x p) (e::es) [] pos) (tCB r t):=by
 intro pins s Z H Q I h
 refine wpAny_Call_Name_kw (Ek I hg hm hv ?_ hn hdb)
 exact PyProof.Rows.callWith_builtin1 (thn (ha pos pins s Z H _ I h) fun us s1 ⟨vs,H1,I1,r1,q1⟩=>hc pins s1 Z H1 vs us Q I1 r1 q1) he hpl
theorem OJ(hc:n8 X (.type T) r)(hg:Gl X x)(hm:X.mg x=none)(hv:bootBuiltins x=some (.type T))(ha:PA X (e::es) t)(hn:x ≠ "__name__":=by decide)(hdb:(x==("__debug__":Str))=false:=by decide)
  (he:starEach (e::es) X.env=(false,eval e X.env)::starEach es X.env:=by rfl) (hpl:(backTo pos (starEach es X.env)).any (·.1)=false:=by rfl):PE X (.Call (.Name x p) (e::es) [] pos) (tCB r t):=by
 intro pins s Z H Q I h
 refine wpAny_Call_Name_kw (Ek I hg hm hv ?_ hn hdb)
 exact PyProof.Rows.callWith_type1 (thn (ha pos pins s Z H _ I h) fun us s1 ⟨vs,H1,I1,r1,q1⟩=>hc pins s1 Z H1 vs us Q I1 r1 q1) he hpl
end
end L2
namespace HT
open PySem PyProof.Rows
section
open PySem.SeqAt
open PySem.AutoSeq1 (wpAny_loadPart')
open PySem.MeetsSeq PySem.MeetsSeq2 PySem.MeetsSeq3
end
section
variable {prog:Program}{w:World}{A:Around}{E:Value->Shared->Prop}{s:Shared}
theorem Tb{t b:Addr}{vs ws:List Value}{Q:Value->Shared->Prop}(ht:IsTup s.heap t vs.toArray)(hb:IsTup s.heap b ws.toArray)(hv:vs≠[])
  (h1:ws=[]->Q (.ref t) s) (h2:ws≠[]->Q (.ref s.heap.objs.size) {s with heap:=s.heap.push {cls:=.type "tuple",data:=.seq (vs++ws).toArray}})
  (hsz:vs.length+ws.length<=sizeLine):wpAny (model prog w) A (binaryOp .Add (.ref t) (.ref b)) Q E s:=by
 obtain⟨⟨cls,dd,data,sl⟩,ho,hc,n,hd⟩:=id ht
 obtain⟨⟨cls2,dd2,data2,sl2⟩,ho2,hc2,n2,hd2⟩:=id hb
 simp only at hc hd hc2 hd2
 subst hc hd hc2 hd2
 have e:vs.toArray++ws.toArray=(vs++ws).toArray:=by simp
 by_cases hw:ws=[]
 ·exact concat_meets ⟨_,ho,rfl⟩ ⟨_,ho2,rfl⟩ noFill_tuple_add seq_tuple_add PySem.F.slot_tuple_add PySem.F.entry_tuple_add (PySem.F.args_tuple_add_2 _ _)
   (tuple_addW1 t b vs.toArray ws.toArray n n2 dd dd2 sl sl2 (by simpa using hv) (by simp[hw])) ⟨ho,ho2,h1 hw⟩
 ·refine concat_meets ⟨_,ho,rfl⟩ ⟨_,ho2,rfl⟩ noFill_tuple_add seq_tuple_add PySem.F.slot_tuple_add PySem.F.entry_tuple_add (PySem.F.args_tuple_add_2 _ _)
   (tuple_addW2 t b vs.toArray ws.toArray n n2 dd dd2 sl sl2 (by simpa using hv) (by simpa using hw) (by rw[size_toArray,size_toArray];exact hsz)) ⟨ho,ho2,?_⟩
  rw[e]
  exact h2 hw
def sIx(n d:Nat):Option Int->Nat
 |none=>d
 |some v=>if v<0 then (v+(n:Int)).toNat else min v.toNat n
theorem VB(n d:Nat)(hd:d<=n)(o:Option Int):sIx n d o<=n:=by
 cases o with
 |none=>exact hd
 |some v=>
  show (if v<0 then (v+(n:Int)).toNat else min v.toNat n)<=n
  by_cases hv:v<0
  ·rw[if_pos hv];omega
  ·rw[if_neg hv];exact Nat.min_le_right _ _
theorem Oy(v:Int)(n d:Nat):(if v<0 then max (v+(n:Int)) 0 else min v (n:Int))=((sIx n d (some v):Nat):Int):=by
 show (if v<0 then max (v+(n:Int)) 0 else min v (n:Int))=(((if v<0 then (v+(n:Int)).toNat else min v.toNat n):Nat):Int)
 by_cases hv:v<0
 ·simp only[if_pos hv];omega
 ·simp only[if_neg hv];omega
theorem My(lo hi:Option Int)(n:Nat):Builtin.Slice.sliceAdjust lo hi 1 (n:Int)=(((sIx n 0 lo:Nat):Int),((sIx n n hi:Nat):Int)):=by
 have h1:¬ ((1:Int)<0):=by omega
 unfold Builtin.Slice.sliceAdjust
 simp only[h1,if_false]
 refine Prod.ext ?_ ?_
 ·cases lo with
  |none=>rfl
  |some v=>exact Oy v n 0
 ·cases hi with
  |none=>rfl
  |some v=>exact Oy v n n
theorem MU(i j:Nat):Builtin.Slice.slicePlaces (i:Int) (j:Int) 1=j-i:=by
 unfold Builtin.Slice.slicePlaces
 have h1:(1:Int)>0:=by omega
 simp only[h1,if_true,Int.ediv_one]
 split<;>omega
theorem D3{v:Value}{o:Option Int}{Q:Option Int->Shared->Prop}(p:IsPart v o)(h:Q o s):wpAny (model prog w) A (Builtin.Slice.slicePartIndex v) Q E s:=by
 cases p with
 |none=>exact slicePart_none h
 |int i t=>exact slicePart_int h
theorem tQ{sl:Addr}{vl vu:Value}{lo hi:Option Int}{n:Nat}{Q:Int×Int×Nat->Shared->Prop}(hs:s.heap.IsSliceOf sl vl vu .none)(pl:IsPart vl lo)(pu:IsPart vu hi)
  (h:Q (((sIx n 0 lo:Nat):Int),1,sIx n n hi-sIx n 0 lo) s):wpAny (model prog w) A (Builtin.Slice.sliceApplied (.ref sl) (pure (n:Int))) Q E s:=by
 obtain⟨os,hos,hcs,hds⟩:=id hs
 unfold Builtin.Slice.sliceApplied Builtin.Slice.sliceFields
 refine wpAny_bind (wpAny_bind (wpAny_field hos hds (x:=vl) rfl (wpAny_bind (wpAny_field hos hds (x:=vu) rfl (wpAny_bind (wpAny_field hos hds (x:=.none) rfl (wpAny_pure ?_)))))))
 refine wpAny_bind (slicePart_none ?_)
 show wpAny _ _ (if ((1:Int)==0)=true then _ else _) _ _ s
 rw[if_neg ⋯]
 refine wpAny_bind (D3 pl (wpAny_bind (D3 pu (wpAny_bind (wpAny_pure ?_)))))
 show wpAny _ _ (match Builtin.Slice.sliceAdjust lo hi 1 (n:Int) with|(lo,hi)=>pure (lo,(1:Int),Builtin.Slice.slicePlaces lo hi 1)) _ _ s
 rw[My lo hi n]
 show wpAny _ _ (pure (((sIx n 0 lo:Nat):Int),(1:Int),Builtin.Slice.slicePlaces ((sIx n 0 lo:Nat):Int) ((sIx n n hi:Nat):Int) 1)) _ _ s
 rw[MU]
 exact wpAny_pure h
theorem Rf(xs:Array Value)(i k:Nat):((List.range k).filterMap fun (m:Nat)=>xs[((i:Int)+(m:Int)*1).toNat]?).toArray=((xs.toList.drop i).take k).toArray:=by
 have e:(fun (m:Nat)=>xs[((i:Int)+(m:Int)*1).toNat]?)=fun m=>xs[i+m]?:=by
  funext m
  have:((i:Int)+(m:Int)*1).toNat=i+m:=by omega
  rw[this]
 rw[e]
 have:=pick_run xs i k
 rw[List.filterMap_map] at this
 have e2:((fun x=>xs[x]?) ∘ fun x=>i+x)=fun m=>xs[i+m]?:=rfl
 rw[e2] at this
 rw[this]
theorem zq{t sl:Addr}{items:Array Value}{vl vu:Value}{lo hi:Option Int}{Q:Value->Shared->Prop}(ht:IsTup s.heap t items)(hs:s.heap.IsSliceOf sl vl vu .none)(pl:IsPart vl lo)(pu:IsPart vu hi)
  (hw:¬ (sIx items.size 0 lo=0/\sIx items.size items.size hi=items.size))
  (h:Q (.ref s.heap.objs.size) {s with heap:=s.heap.push {cls:=.type "tuple",data:=.seq ((items.toList.drop (sIx items.size 0 lo)).take (sIx items.size items.size hi-sIx items.size 0 lo)).toArray}})
  (hsz:items.size<=sizeLine):wpAny (model prog w) A (getItem (.ref t) (.ref sl)) Q E s:=by
 have htake:sizeOk (.seq ((items.toList.drop (sIx items.size 0 lo)).take (sIx items.size items.size hi-sIx items.size 0 lo)).toArray):=by
  show ((items.toList.drop (sIx items.size 0 lo)).take (sIx items.size items.size hi-sIx items.size 0 lo)).toArray.size<=sizeLine
  rw[size_toArray,length_take,List.length_drop,Array.length_toList]
  omega
 have hj:sIx items.size items.size hi<=items.size:=VB _ _ (le_refl _) hi
 obtain⟨os,hos,hcs,hds⟩:=id hs
 have hTs:s.TypeIs (.ref sl) "slice":=⟨os,hos,hcs⟩
 unfold getItem
 try with_reducible refine wpAny_holding ?_
 first|refine wpAny_bind (wpAny_pure ?_)|skip
 refine wpAny_bind (wpAny_sequenceKey ht.typeIs ⋯ ?_)
 refine wpAny_bind (wpAny_callSpecial?_slot (name:=Str.ofString "__getitem__") ht.typeIs PyProof.Rows.slot_tuple_getitem
  (wpAny_call_entry PyProof.Rows.slot_tuple_getitem ht.typeIs entry_tuple_getitem ?_ (args_tuple_getitem _ _)))
 show wpAny _ _ (Builtin.Tuple.tupleItemsOf (.ref t)>>=_) _ _ s
 refine wpAny_bind (tupleItemsOf_ ht ?_)
 refine wpAny_bind (wpAny_typeOf hTs ?_)
 rw[if_pos ⋯]
 refine wpAny_bind (tQ hs pl pu ?_)
 have hno:¬ ((((sIx items.size 0 lo:Nat):Int)==0&&(1:Int)==1&&(sIx items.size items.size hi-sIx items.size 0 lo)==items.size)=true):=by
  intro q
  rw[and_eq_true,and_eq_true] at q
  have q1:((sIx items.size 0 lo:Nat):Int)=0:=eq_of_beq q.1.1
  have q2:sIx items.size items.size hi-sIx items.size 0 lo=items.size:=eq_of_beq q.2
  exact hw ⟨∅,∅⟩
 show wpAny _ _ (if (((sIx items.size 0 lo:Nat):Int)==0&&(1:Int)==1&&(sIx items.size items.size hi-sIx items.size 0 lo)==items.size)=true then _ else _) _ _ s
 rw[if_neg hno,Rf]
 first
  |exact wpAny_bind (m:=Builtin.Tuple.tupleExact _) (wpAny_newObj_type (wpAny_pure ⟨_,rfl,wpAny_pure h⟩) htake)
  |exact wpAny_bind (m:=Builtin.Tuple.tupleExact _) (wpAny_newObj_type (wpAny_bind (wpAny_pure (wpAny_pure ⟨_,rfl,wpAny_pure h⟩))) htake)
  |exact wpAny_bind (wpAny_bind (m:=Builtin.Tuple.tupleExact _) (wpAny_newObj_type (wpAny_pure (wpAny_pure ⟨_,rfl,wpAny_pure h⟩)) htake))
  |exact wpAny_bind (wpAny_bind (m:=Builtin.Tuple.tupleExact _) (wpAny_newObj_type (wpAny_pure ⟨_,rfl,wpAny_pure h⟩) htake))
end
end HT
namespace L2
open PySem PySem.Spec PyProof.Rows
abbrev TO:=St->Hp->(Option Int->Hp->Prop)->Prop
noncomputable def PO(X:Cx)(e:Option Expr)(t:TO):Prop:=
 ∀(pins:List (Addr×Obj)) (s:Shared) (Z:St) (H:Hp) (Q:Option Int->Hp->Prop),Inv X pins Z H s->t Z H Q ->
  wpAny (model X.prog X.w) X.A (evalPart e X.env) (fun u s'=>∃o H',Inv X pins Z H' s'/\IsPart u o/\Q o H') X.xe s
noncomputable def S9:TO:=fun _ H Q=>Q none H
noncomputable def XO(t:TE):TO:=fun Z H Q=>t Z H fun x H1=>∃i,x = .int i/\Q (some i) H1
section
variable {X:Cx}{e:Expr}{te:TE}{lo hi:Option Expr}{tl th:TO}{pos p2:Pos}
theorem Sr:PO X none S9:=by
 intro pins s Z H Q I h
 rw[evalPart_none]
 exact wpAny_pure ⟨none,H,I,.none,h⟩
theorem SN(h:PE X e te):PO X (some e) (XO te):=by
 intro pins s Z H Q I hw
 rw[evalPart_some]
 refine thn (h pins s Z H _ I hw) fun u s1 ⟨x,H1,I1,r1,q1⟩=>?_
 obtain⟨i,rfl,q⟩:=q1
 obtain⟨t,rfl⟩:=r1
 exact⟨some i,H1,I1,.int i t,q⟩
noncomputable def SlR(X:Cx)(r:V->Option Int->Option Int->Hp->VK->Prop):Prop:=
 ∀(pins:List (Addr×Obj)) (s:Shared) (Z:St) (H:Hp) (x:V) (v vl vu:Value) (lo hi:Option Int) (sl:Addr) (Q:VK),Inv X pins Z H s->RelV x v->s.heap.IsSliceOf sl vl vu .none->IsPart vl lo->IsPart vu hi->r x lo hi H Q ->
  ∃T id,typeLookup (.type T) "__getitem__"=pure (some (.builtin id))/\s.TypeIs v T/\wpAny (model X.prog X.w) X.A (getItem v (.ref sl)) (EP X pins Z Q) X.xe s
theorem SlR.or{r r':V->Option Int->Option Int->Hp->VK->Prop}(h:SlR X r)(h':SlR X r'):SlR X (fun x lo hi H Q=>r x lo hi H Q\/r' x lo hi H Q):=by
 intro pins s Z H x v vl vu lo hi sl Q I rx hs pl pu q
 rcases q with q|q
 ·exact h pins s Z H x v vl vu lo hi sl Q I rx hs pl pu q
 ·exact h' pins s Z H x v vl vu lo hi sl Q I rx hs pl pu q
noncomputable def tSl(r:V->Option Int->Option Int->Hp->VK->Prop)(te:TE)(tl th:TO):TE:=fun Z H Q=>te Z H fun x H1=>tl Z H1 fun l H2=>th Z H2 fun u H3=>r x l u H3 Q
theorem Qu{r:V->Option Int->Option Int->Hp->VK->Prop}(hr:SlR X r)(he:PE X e te)(hl:PO X lo tl)(hu:PO X hi th):PE X (.Subscript e (.Slice lo hi none p2) pos) (tSl r te tl th):=by
 intro pins s Z H Q I h
 refine Subscript_ (thn (he pins s Z H _ I h) fun v s1 ⟨x,H1,I1,r1,q1⟩=>?_)
 refine wpAny_Slice (thn (hl pins s1 Z H1 _ I1 q1) fun vl s2 ⟨l,H2,I2,pl,q2⟩=>thn (hu pins s2 Z H2 _ I2 q2) fun vu s3 ⟨u,H3,I3,pu,q3⟩=>?_)
 rw[evalPart_none]
 refine wpAny_pure ?_
 have I4:Inv X pins Z H3 {s3 with heap:=s3.heap.push {cls:=.type "slice",data:=.fields #[vl,vu,.none]}}:=I3.kept (t':=s3.toks) fun b ob q=>Heap.get?_push_of_some _ q
 obtain⟨T,id,hT,ht,hg⟩:=hr pins {s3 with heap:=s3.heap.push {cls:=.type "slice",data:=.fields #[vl,vu,.none]}} Z H3 x v vl vu l u s3.heap.objs.size Q I4 r1 (Heap.IsSliceOf.new ..) pl pu q3
 show wpAny (model X.prog X.w) X.A (subscriptTail e (.Slice lo hi none p2) v (.ref s3.heap.objs.size)) (EP X pins Z Q) X.xe {s3 with heap:=s3.heap.push {cls:=.type "slice",data:=.fields #[vl,vu,.none]}}
 exact tail_any (ops:=[.ref s3.heap.objs.size,v]) ht hT hg (by with_unfolding_all rfl)
def HB(xs:List V)(lo hi:Option Int):List V:=(xs.drop (HT.sIx xs.length 0 lo)).take (HT.sIx xs.length xs.length hi-HT.sIx xs.length 0 lo)
theorem Cs(xs:List V)(lo hi:Option Int):(HB xs lo hi).length<=xs.length:=by
 unfold HB
 rw[length_take,List.length_drop]
 omega
def Yf(K:PySem.W.Frag):V->Option Int->Option Int->Hp->VK->Prop:=fun x lo hi H Q=>∃a xs,x = .ref a/\SqT K H a xs /\
 ¬ (HT.sIx xs.length 0 lo=0/\HT.sIx xs.length xs.length hi=xs.length)/\∀p,H p=none->Q (.ref p) (upd H p (.tup (HB xs lo hi)))
theorem U9:SlR X (Yf X.K):=by
 intro pins s Z H x v vl vu lo hi sl Q I rx hs pl pu h
 obtain⟨a,xs,rfl,hx,hw,q⟩:=h
 cases rx
 obtain⟨its,r,ht,hz⟩:=I.tuple hx
 have hlen:its.toArray.size=xs.length:=by rw[size_toArray];exact r.length.symm
 refine⟨"tuple",_,PyProof.Rows.slot_tuple_getitem.lookup,ht.typeIs,?_⟩
 refine HT.zq ht hs pl pu (by rw[hlen];exact hw) ?_ (by rw[hlen];exact hz)
 rw[hlen]
 refine⟨.ref s.heap.objs.size,_,I.laid (t':=s.toks) (o:=.tup (HB xs lo hi)) (fun b ob q=>Heap.get?_push_of_some _ q) (le_refl _) ?_,rfl,q _ (I.hok.fresh (le_refl _))⟩
 exact⟨le_trans (Cs xs lo hi) hz,_,(r.drop (HT.sIx xs.length 0 lo)).take (HT.sIx xs.length xs.length hi-HT.sIx xs.length 0 lo),IsTup.new _ _⟩
noncomputable def XG(K:PySem.W.Frag):R2:=fun x y H Q=>∃a b xs ys,x = .ref a/\y = .ref b/\SqT K H a xs/\SqT K H b ys/\xs≠[]/\xs.length+ys.length<=sizeLine /\
 (ys=[]->Q (.ref a) H)/\(ys≠[]->∀p,H p=none->Q (.ref p) (upd H p (.tup (xs++ys))))
theorem Vals.Dy{xs:List V}{us:List Value}(r:Vals xs us):us=[]↔xs=[]:=by
 cases r with
 |nil=>simp
 |cons _ _=>simp
theorem SV:OpR X (binaryOp .Add) (XG X.K):=by
 intro pins s Z H x y v u Q I rx ry h
 obtain⟨a,b,xs,ys,rfl,rfl,ha,hb,hx,hz,q1,q2⟩:=h
 cases rx
 cases ry
 obtain⟨its,r1,p1,_⟩:=I.tuple ha
 obtain⟨its2,r2,p2,_⟩:=I.tuple hb
 refine HT.Tb p1 p2 (fun z=>hx (r1.Dy.mp z)) (fun z=>⟨.ref a,H,I,rfl,q1 (r2.Dy.mp z)⟩) (fun z=>?_) (by rw[<- r1.length,<- r2.length];exact hz)
 refine⟨.ref s.heap.objs.size,_,I.laid (t':=s.toks) (o:=.tup (xs++ys)) (fun b ob q=>Heap.get?_push_of_some _ q) (le_refl _) ?_,rfl,q2 (fun w=>z (r2.Dy.mpr w)) _ (I.hok.fresh (le_refl _))⟩
 exact⟨by rw[length_append];exact hz,_,r1.append r2,IsTup.new _ _⟩
end
end L2
namespace L2
open PySem PySem.Spec PyProof.Rows
def ixN(n:Nat)(i:Int):Option Nat:=if 0<=i then (if i<n then some i.toNat else none) else if -(n:Int)<=i then some (i+n).toNat else none
def atI{α:Type}(xs:List α)(i:Int):Option α:=(ixN xs.length i).bind fun j=>xs[j]?
theorem N4{n:Nat}{i:Int}{j:Nat}(h:ixN n i=some j):seqIndex? i n=some j/\j<n/\-(n:Int)<=i/\i<n:=by
 unfold ixN at h
 by_cases h0:0<=i
 ·rw[if_pos h0] at h
  by_cases h1:i<n
  ·rw[if_pos h1] at h
   have e:i.toNat=j:=Option.some.inj h
   exact⟨by rw[seqIndex_of h0 h1,e],∅,∅,h1⟩
  ·rw[if_neg h1] at h;cases h
 ·rw[if_neg h0] at h
  by_cases h1:-(n:Int)<=i
  ·rw[if_pos h1] at h
   have e:(i+n).toNat=j:=Option.some.inj h
   exact⟨by rw[seqIndex_neg ∅ h1,e],∅,h1,∅⟩
  ·rw[if_neg h1] at h;cases h
theorem Jg{α:Type}{xs:List α}{i:Int}{v:α}(h:atI xs i=some v):∃j,seqIndex? i xs.length=some j/\xs[j]? = some v/\j<xs.length/\-(xs.length:Int)<=i/\i<xs.length:=by
 unfold atI at h
 cases e:ixN xs.length i with
 |none=>rw[e] at h;cases h
 |some j=>
  rw[e] at h
  obtain⟨h1,h2,h3,h4⟩:=N4 e
  exact⟨j,h1,h,h2,h3,h4⟩
theorem zu{α:Type}{xs:List α}{j:Nat}{v:α}(h:xs[j]? = some v):atI xs (j:Int)=some v:=by
 have hj:j<xs.length:=(List.getElem?_eq_some_iff.mp h).1
 have e:ixN xs.length (j:Int)=some j:=by
  unfold ixN
  rw[if_pos ∅,if_pos ∅];simp
 unfold atI;rw[e];exact h
noncomputable def Ot(b:Expr):Prop:=∀o i,subscripted b false o i=operate [o,i] (getItem o i)
noncomputable def IxR(X:Cx)(r:R2):Prop:=
 ∀(value slice:Expr) (pins:List (Addr×Obj)) (s:Shared) (Z:St) (H:Hp) (x y:V) (v u:Value) (Q:VK),Inv X pins Z H s->RelV x v->RelV y u->r x y H Q ->
  subscripted slice false v u=operate [v,u] (getItem v u)->wpAny (model X.prog X.w) X.A (subscriptTail value slice v u) (EP X pins Z Q) X.xe s
noncomputable def MtR(X:Cx)(id:String)(r:V->List V->Hp->VK->Prop):Prop:=
 ∀(pins:List (Addr×Obj)) (s:Shared) (Z:St) (H:Hp) (x:V) (xs:List V) (v:Value) (us:List Value) (Q:VK),Inv X pins Z H s->RelV x v->Vals xs us->r x xs H Q ->
  wpAny (model X.prog X.w) X.A (call (.builtin id) (v::us)) (EP X pins Z Q) X.xe s
section
variable {X:Cx}{a b:Expr}{ta tb:TE}{pos:Pos}
theorem IxR.or{r r':R2}(h:IxR X r)(h':IxR X r'):IxR X (fun x y H Q=>r x y H Q\/r' x y H Q):=by
 intro value slice pins s Z H x y v u Q I rx ry q hs
 rcases q with q|q
 ·exact h value slice pins s Z H x y v u Q I rx ry q hs
 ·exact h' value slice pins s Z H x y v u Q I rx ry q hs
theorem Ws{r:R2}(hr:IxR X r)(ha:PE X a ta)(hb:PE X b tb)(hs:Ot b):PE X (.Subscript a b pos) (tOp r ta tb):=by
 intro pins s Z H Q I h
 exact Subscript_ (VS ha hb I h fun v u s2 x y H2 I2 rx ry q=>hr a b pins s2 Z H2 x y v u Q I2 rx ry q (hs _ _))
noncomputable def WA(K:PySem.W.Frag):R2:=fun x y H Q=>∃p xs i v,x = .ref p/\y = .int i/\SqL K H p xs/\atI xs i=some v/\Q v H
noncomputable def WQ(K:PySem.W.Frag):R2:=fun x y H Q=>∃p xs i v,x = .ref p/\y = .int i/\SqT K H p xs/\atI xs i=some v/\Q v H
noncomputable def Xj:R2:=fun x y H Q=>∃z i c,x = .str z/\y = .int i/\z.length<=sizeLine/\atI z.cps.toList i=some c/\Q (.str ⟨#[c]⟩) H
theorem Tz:IxR X (WA X.K):=by
 intro value slice pins s Z H x y v u Q I rx ry h hs
 obtain⟨p,xs,i,z,rfl,rfl,hq,he,q⟩:=h
 cases rx
 obtain⟨t,rfl⟩:=ry
 obtain⟨its,r,pl,hz⟩:=I.list hq
 obtain⟨j,h1,h2,h3,h4,h5⟩:=Jg he
 obtain⟨w,ew,rw'⟩:=r.get h2
 have hl:=r.length
 have hn:=Bx
 have fin:EP X pins Z Q w s:=⟨z,H,I,rw',q⟩
 by_cases h0:0<=i
 ·have hj:i.toNat=j:=by
   rw[seqIndex_of h0 h5] at h1
   exact Option.some.inj h1
  exact item_listR pl.isList h0 ∅ (by rw[hj];simpa using ew) fin hs
 ·have hj:(i+(its.toArray.size:Int)).toNat=j:=by
   rw[seqIndex_neg ∅ h4] at h1
   rw[size_toArray,<- hl]
   exact Option.some.inj h1
  exact subscriptTail_builtinR (x:=w) pl.isList.typeIs slot_list_getitem.lookup
   (wpAny_getItem_list_neg (Q:=fun r s'=>r=w/\EP X pins Z Q r s') pl.isList ∅ (by rw[size_toArray]<;>omega) ∅ (by rw[hj];simpa using ew) ⟨rfl,fin⟩) hs
theorem UU:IxR X (WQ X.K):=by
 intro value slice pins s Z H x y v u Q I rx ry h hs
 obtain⟨p,xs,i,z,rfl,rfl,hq,he,q⟩:=h
 cases rx
 obtain⟨t,rfl⟩:=ry
 obtain⟨its,r,pl,hz⟩:=I.tuple hq
 obtain⟨j,h1,h2,h3,h4,h5⟩:=Jg he
 obtain⟨w,ew,rw'⟩:=r.get h2
 have hl:=r.length
 have hn:=Bx
 have fin:EP X pins Z Q w s:=⟨z,H,I,rw',q⟩
 exact subscriptTail_builtinR (x:=w) pl.typeIs slot_tuple_getitem.lookup
  (getItem_tuple (j:=j) (Q:=fun r s'=>r=w/\EP X pins Z Q r s') pl ∅ ∅ (by rw[size_toArray,<- hl];exact h1) (by simpa using ew) ⟨rfl,fin⟩) hs
theorem Wd:IxR X Xj:=by
 intro value slice pins s Z H x y v u Q I rx ry h hs
 obtain⟨z,i,c,rfl,rfl,hz,he,q⟩:=h
 obtain⟨t,rfl⟩:=rx
 obtain⟨t',rfl⟩:=ry
 obtain⟨j,h1,h2,h3,h4,h5⟩:=Jg he
 have hl:z.cps.toList.length=z.length:=by simp[Str.length]
 rw[hl] at h1 h4 h5
 have hn:=Bx
 exact tail_any (typeIs_str s z t) slot_str_getitem.lookup (getItem_str (c:=c) (by
  have e1:decide (i < -(2 ^ 63:Int))=false:=decide_eq_false ∅
  have e2:decide (i ≥ 2 ^ 63)=false:=decide_eq_false ∅
  rw[e1,e2,Bool.or_false]) (by rw[h1];simpa using h2) ⟨.str ⟨#[c]⟩,H,I.tok _,⟨_,rfl⟩,q⟩) hs
noncomputable def rIx(K:PySem.W.Frag):R2:=fun x y H Q=>WA K x y H Q\/WQ K x y H Q\/Xj x y H Q
theorem HW:IxR X (rIx X.K):=Tz.or (UU.or Wd)
theorem Ny(its:List Value)(n j:Nat)(u:Value):Obj.mapSeq (·.setIfInBounds j u) {cls:=.type "list",data:=.seq its.toArray n} = {cls:=.type "list",data:=.seq (its.set j u).toArray n}:=by
 simp[Obj.mapSeq]
theorem Inv.lst{pins:List (Addr×Obj)}{Z:St}{H:Hp}{s:Shared}{p:Addr}{xs:List V}(I:Inv X pins Z H s)(h:H p=some (.lst xs)) :
  ∃(its:List Value) (n:Nat),Vals xs its/\s.heap.get? p=some {cls:=.type "list",data:=.seq its.toArray n}/\xs.length<=sizeLine:=by
 obtain⟨z,its,n,r,e⟩:=I.hok p _ h
 exact⟨its,n,r,e,z⟩
theorem Inv.Uz{pins:List (Addr×Obj)}{Z:St}{H:Hp}{s:Shared}{p:Addr}{xs ys:List V}{its its':List Value}{n n':Nat}{f:Obj->Obj}(I:Inv X pins Z H s)(h:H p=some (.lst xs))
  (ho:s.heap.get? p=some {cls:=.type "list",data:=.seq its.toArray n}) (hf:f {cls:=.type "list",data:=.seq its.toArray n} = {cls:=.type "list",data:=.seq its'.toArray n'}) (r:Vals ys its') (hz:ys.length<=sizeLine) (t:Nat) :
  Inv X pins Z (upd H p (.lst ys)) {s with heap:=s.heap.update p f,toks:=t}:=by
 have e:(s.heap.update p f).get? p=some {cls:=.type "list",data:=.seq its'.toArray n'}:=by
  rw[Heap.get?_update_self f ho (by rw[hf]<;>rfl),hf]
 refine I.write (x:=p) (e:=p) (by rw[h];trivial) (.inl rfl) (fun b u hb q=>(Heap.get?_update_other _ _ (Ne.symm hb)).trans q) ⟨_,e⟩ ?_
 exact⟨hz,its',n',r,e⟩
def WM:V->V->V->Hp->(Hp->Prop)->Prop:=fun o i v H Q=>∃p xs k j,o = .ref p/\i = .int k/\H p=some (.lst xs)/\ixN xs.length k=some j/\Q (upd H p (.lst (xs.set j v)))
theorem set_list:WJ X WM:=by
 intro pins s Z H o i v ov iv u Q I ro ri rv h
 obtain⟨p,xs,k,j,rfl,rfl,hp,hj,q⟩:=h
 cases ro
 obtain⟨t,rfl⟩:=ri
 obtain⟨its,n,r,ho,hz⟩:=I.lst hp
 obtain⟨h1,h2,h3,h4⟩:=N4 hj
 have hl:=r.length
 have hn:=Bx
 have I':Inv X pins Z (upd H p (.lst (xs.set j v))) {s with heap:=s.heap.update p (Obj.mapSeq (·.setIfInBounds j u))}:=
  I.Uz hp ho (Ny its n j u) (r.set rv j) (by rw[List.length_set];exact hz) s.toks
 by_cases h0:0<=k
 ·have hk:k.toNat=j:=by
   rw[seqIndex_of h0 h4] at h1
   exact Option.some.inj h1
  exact PySem.W.ki_setAt ho h0 ∅ (by rw[size_toArray,<- hl];exact h4) (by rw[hk];exact⟨_,I',q⟩)
 ·have hk:(k+(its.toArray.size:Int)).toNat=j:=by
   rw[seqIndex_neg ∅ h3] at h1
   rw[size_toArray,<- hl]
   exact Option.some.inj h1
  exact PySem.W.ki_setBack ho ∅ (by rw[size_toArray,<- hl];exact h3) ∅ (by rw[hk];exact⟨_,I',q⟩)
theorem IC(lo hi:Option Int)(n:Nat):(sliceBounds lo hi none n).1=((HT.sIx n 0 lo:Nat):Int)/\(sliceBounds lo hi none n).2.1=((HT.sIx n n hi:Nat):Int)/\(sliceBounds lo hi none n).2.2=1:=by
 refine⟨?_,?_,rfl⟩
 ·cases lo with
  |none=>simp[sliceBounds,HT.sIx]
  |some i=>
   simp only[sliceBounds,HT.sIx,Option.getD_none,show (1:Int)>0 by decide,if_true]
   by_cases h:i<0
   ·simp only[h,if_true]<;>omega
   ·simp only[h,if_false]<;>omega
 ·cases hi with
  |none=>simp[sliceBounds,HT.sIx]
  |some i=>
   simp only[sliceBounds,HT.sIx,Option.getD_none,show (1:Int)>0 by decide,if_true]
   by_cases h:i<0
   ·simp only[h,if_true]<;>omega
   ·simp only[h,if_false]<;>omega
theorem Gy(its:List Value)(lo hi:Option Int):slicePick its.toArray lo hi none=((its.drop (HT.sIx its.length 0 lo)).take (HT.sIx its.length its.length hi-HT.sIx its.length 0 lo)).toArray:=by
 obtain⟨h1,h2,h3⟩:=IC lo hi its.toArray.size
 unfold slicePick
 rw[h1,h2,h3]
 simp only[sliceRange_one,pick_run,size_toArray]<;>rfl
def X8(K:PySem.W.Frag):V->Option Int->Option Int->Hp->VK->Prop:=fun x lo hi H Q=>∃a xs,x = .ref a/\SqL K H a xs/\∀p,H p=none->Q (.ref p) (upd H p (.lst (HB xs lo hi)))
theorem Sn:SlR X (X8 X.K):=by
 intro pins s Z H x v vl vu lo hi sl Q I rx hs pl pu h
 obtain⟨a,xs,rfl,hx,q⟩:=h
 cases rx
 obtain⟨its,r,ht,hz⟩:=I.list hx
 have hlen:=r.length
 refine⟨"list",_,slot_list_getitem.lookup,ht.isList.typeIs,?_⟩
 refine wpAny_getItem_list_slice ht.isList hs pl pu .none (by simp) ?_ (by rw[size_toArray]<;>omega)
 rw[Gy,<- hlen]
 refine⟨.ref s.heap.objs.size,_,I.laid (t':=s.toks) (o:=.lst (HB xs lo hi)) (fun b ob q=>Heap.get?_push_of_some _ q) (le_refl _) ?_,rfl,q _ (I.hok.fresh (le_refl _))⟩
 exact⟨le_trans (Cs xs lo hi) hz,_,0,(r.drop (HT.sIx xs.length 0 lo)).take (HT.sIx xs.length xs.length hi-HT.sIx xs.length 0 lo),Heap.get?_push_size _ rfl⟩
theorem IJ:n8 X (.builtin "len") (fun xs H Q=>∃p ys,xs=[.ref p]/\(SqL X.K H p ys\/SqT X.K H p ys)/\Q (.int ys.length) H):=by
 intro pins s Z H xs us Q I r h
 obtain⟨p,ys,rfl,hq,q⟩:=h
 obtain⟨u,rfl,rx⟩:=vals1 r
 cases rx
 have hn:=Bx
 rcases hq with hq|hq
 ·obtain⟨its,r',pl,hz⟩:=I.list hq
  have hlen:=r'.length
  exact Calls.call_len_list pl.isList (by simp only[size_toArray]<;>omega) ⟨.int ys.length,H,I.tok _,⟨s.toks+1,by rw[size_toArray,hlen]⟩,q⟩
 ·obtain⟨its,r',pl,hz⟩:=I.tuple hq
  have hlen:=r'.length
  exact len_tuple pl (by simp only[size_toArray]<;>omega) ⟨.int ys.length,H,I.tok _,⟨s.toks+1,by rw[size_toArray,hlen]⟩,q⟩
theorem Jm:n8 X (.type "list") (fun xs H Q=>∃p ys,xs=[.ref p]/\(SqL X.K H p ys\/SqT X.K H p ys)/\∀l,H l=none->Q (.ref l) (upd H l (.lst ys))):=by
 intro pins s Z H xs us Q I r h
 obtain⟨p,ys,rfl,hq,q⟩:=h
 obtain⟨u,rfl,rx⟩:=vals1 r
 cases rx
 have fin:∀(its:List Value),Vals ys its->ys.length<=sizeLine->∀(h':Heap) (c':Nat),(∀b o',s.heap.get? b=some o'->h'.get? b=some o') ->
   h'.get? s.heap.objs.size=some {cls:=.type "list",dict:=none,data:=.seq its.toArray c',slots:=#[]}->EP X pins Z Q (.ref s.heap.objs.size) {s with heap:=h'}:=fun its r' hz h' c' kp e=>
  ⟨.ref s.heap.objs.size,_,I.laid (t':=s.toks) kp (le_refl _) (show qo X.prog X.w _ h' _ (.lst ys) from ⟨hz,its,c',r',e⟩),rfl,q _ (I.hok.fresh (le_refl _))⟩
 rcases hq with hq|hq
 ·obtain⟨its,r',pl,hz⟩:=I.list hq
  have hlen:=r'.length
  obtain⟨o,ho,hc,n,hd⟩:=pl.isList
  exact call_list_seq p (.inl rfl) ho hc hd (fun h' c' kp e=>fin its r' hz h' c' kp e) (by simp only[size_toArray]<;>omega)
 ·obtain⟨its,r',pl,hz⟩:=I.tuple hq
  have hlen:=r'.length
  obtain⟨o,ho,hc,n,hd⟩:=pl
  exact call_list_seq p (.inr rfl) ho hc hd (fun h' c' kp e=>fin its r' hz h' c' kp e) (by simp only[size_toArray]<;>omega)
theorem Gb:n8 X (.type "tuple") (fun xs H Q=>∃p ys,xs=[.ref p]/\((SqL X.K H p ys/\∀l,H l=none->Q (.ref l) (upd H l (.tup ys)))\/(SqT X.K H p ys/\Q (.ref p) H))):=by
 intro pins s Z H xs us Q I r h
 obtain⟨p,ys,rfl,h⟩:=h
 obtain⟨u,rfl,rx⟩:=vals1 r
 cases rx
 rcases h with ⟨hq,q⟩|⟨hq,q⟩
 ·obtain⟨its,r',pl,hz⟩:=I.list hq
  have hlen:=r'.length
  refine call_tuple_list pl.isList (fun h' kp=>?_) (by simp only[size_toArray]<;>omega)
  have I1:Inv X pins Z H {s with heap:=h'}:=I.kept (t':=s.toks) kp
  have I2:Inv X pins Z (upd H h'.objs.size (.tup ys)) {s with heap:=h'.push {cls:=.type "tuple",data:=.seq its.toArray}}:=
   I1.laid (t':=s.toks) (fun b o e=>Heap.get?_push_of_some _ e) (le_refl _) (show qo X.prog X.w _ _ _ (.tup ys) from ⟨hz,its,r',IsTup.new _ _⟩)
  exact⟨.ref h'.objs.size,_,I2,rfl,q _ (I1.hok.fresh (le_refl _))⟩
 ·obtain⟨its,r',pl,hz⟩:=I.tuple hq
  exact call_tuple_same pl ⟨.ref p,H,I,rfl,q⟩
noncomputable def tyV(K:PySem.W.Frag)(T:String)(x:V)(H:Hp):Prop:=match x with
 |.str _=>T = "str"
 |.int _=>T = "int"
 |.ref p=>(T = "list"/\∃xs,SqL K H p xs)\/(T = "tuple"/\∃o,K.lookup p=some o/\o.cls = .type "tuple"/\o.dict=none) \/
   (T = "dict"/\((∃kvs,H p=some (.dK kvs))\/∃kvs,H p=some (.dT kvs)))\/(T = "set"/\∃S n,H p=some (.set S n))
 |_=>False
theorem QP{pins:List (Addr×Obj)}{Z:St}{H:Hp}{s:Shared}{T:String}{x:V}{v:Value}(I:Inv X pins Z H s)(r:RelV x v)(ty:tyV X.K T x H) :
  s.TypeIs v T/\∀a,v = .ref a->∃ob,s.heap.get? a=some ob/\ob.dict=none:=by
 cases x with
 |str z=>
  obtain⟨t,rfl⟩:=r
  cases (show T = "str" from ty)
  exact⟨typeIs_str s z t,fun _ e=>nomatch e⟩
 |int i=>
  obtain⟨t,rfl⟩:=r
  cases (show T = "int" from ty)
  exact⟨typeIs_int s i t,fun _ e=>nomatch e⟩
 |ref p=>
  cases r
  rcases ty with ⟨rfl,xs,hq⟩|⟨rfl,o,hk,hc,hd⟩|⟨rfl,hk⟩|⟨rfl,S,n,hk⟩
  ·obtain⟨its,_,pl,_⟩:=I.list hq
   refine⟨pl.isList.typeIs,fun a e=>?_⟩
   cases e
   obtain⟨o,n,e,c,hd,_⟩:=pl
   exact⟨o,e,hd⟩
  ·refine⟨⟨o,I.kIn p o hk,hc⟩,fun a e=>?_⟩
   cases e
   exact⟨o,I.kIn _ o hk,hd⟩
  ·have z:∃o,s.heap.get? p=some o/\o.ExactDict:=by
    rcases hk with ⟨kvs,hk⟩|⟨kvs,hk⟩
    ·obtain⟨_,_,_,_,o,_,_,e,ex,_⟩:=I.hok p _ hk
     exact⟨o,e,ex⟩
    ·obtain⟨_,_,_,_,o,_,_,e,ex,_⟩:=I.hok p _ hk
     exact⟨o,e,ex⟩
   obtain⟨o,e,ex⟩:=z
   refine⟨⟨o,e,ex.1⟩,fun a e2=>?_⟩
   cases e2
   exact⟨o,e,ex.2.1⟩
  ·obtain⟨o,_,_,_,e,ex,_⟩:=I.hok p _ hk
   refine⟨⟨o,e,ex.1⟩,fun a e2=>?_⟩
   cases e2
   exact⟨o,e,ex.2.1⟩
 |_=>exact False.elim ty
noncomputable def X6(K:PySem.W.Frag)(T:String)(r:V->List V->Hp->VK->Prop)(to:TE):TE:=fun Z H Q=>to Z H fun x H1=>tyV K T x H1/\r x [] H1 Q
noncomputable def tBM(K:PySem.W.Frag)(T:String)(r:V->List V->Hp->VK->Prop)(to:TE)(t:TA):TE:=fun Z H Q=>to Z H fun x H1=>tyV K T x H1/\t Z H1 fun xs H2=>r x xs H2 Q
variable {o e:Expr}{es:List Expr}{to:TE}{t:TA}{name:Str}{apos cpos:Pos}{T id:String}{r:V->List V->Hp->VK->Prop}
theorem Vx(pa:PlainAttrs T)(slot:Slot T name id)(hty:typeOf (.builtin id)=pure (.type "method_descriptor"))(hm:MtR X id r)(ho:PE X o to)
  (hbase:attributeBase o name X.env (eval o X.env)=eval o X.env:=by rfl) (hline:(apos.endLine==cpos.line)=true:=by rfl):PE X (.Call (.Attribute o name apos) [] [] cpos) (X6 X.K T r to):=by
 intro pins s Z H Q I h
 refine wpAny_Call_method0_late hbase hline (thn (ho pins s Z H _ I h) fun v s1 ⟨x,H1,I1,r1,ty,q1⟩=>?_)
 obtain⟨h1,h2⟩:=QP I1 r1 ty
 exact⟨T,id,pa,slot,hty,h1,h2,Calls.callWith_builtin rfl (PySem.evalArgs_none (hm pins s1 Z H1 x [] v [] Q I1 r1 .nil q1))⟩
theorem Ue(pa:PlainAttrs T)(slot:Slot T name id)(hty:typeOf (.builtin id)=pure (.type "method_descriptor"))(hm:MtR X id r)(ho:PE X o to)(ha:PA X (e::es) t)
  (hbase:attributeBase o name X.env (eval o X.env)=eval o X.env:=by rfl)
  (hfew:((backTo cpos (starEach (e::es) X.env)).all (fun x=>!x.1)&&(backToKw cpos (keywordEach [] X.env)).all (fun x=>x.1.isSome)
   && decide ((e::es).length+([]:List Keyword).length+(if ([]:List Keyword).isEmpty then 0 else 1)<30))=true:=by rfl)
  (hline:(apos.endLine==cpos.line)=true:=by rfl) (hs:starEach (e::es) X.env=(false,eval e X.env)::starEach es X.env:=by rfl) (hplain:(backTo cpos (starEach es X.env)).any (·.1)=false:=by rfl) :
  PE X (.Call (.Attribute o name apos) (e::es) [] cpos) (tBM X.K T r to t):=by
 intro pins s Z H Q I h
 refine wpAny_Call_method_late hbase hfew hline rfl (thn (ho pins s Z H _ I h) fun v s1 ⟨x,H1,I1,r1,ty,q1⟩=>?_)
 obtain⟨h1,h2⟩:=QP I1 r1 ty
 refine⟨T,id,pa,slot,hty,h1,h2,?_⟩
 have hA:=ha cpos pins s1 Z H1 _ I1 q1
 rw[hs] at hA ⊢
 refine Calls.callWith_builtin (by show (false || (backTo cpos (starEach es X.env)).any (·.1))=false;rw[hplain]<;>rfl) (Calls.evalArgs_plain ?_)
 exact thn hA fun us s2 ⟨vs,H2,I2,r2,q2⟩=>hm pins s2 Z H2 x vs v us Q I2 r1 r2 q2
end
end L2
namespace L2
open PySem PySem.Spec PyProof.Rows
noncomputable def MtM(X:Cx)(id:String)(r:V->List V->Hp->VK->Prop):Prop:=
 ∀(pins:List (Addr×Obj)) (s:Shared) (Z:St) (H:Hp) (x:V) (xs:List V) (v:Value) (us:List Value) (Q:VK),Inv X pins Z H s->RelV x v->Vals xs us->r x xs H Q ->
  wpAny (model X.prog X.w) X.A (call (.builtin id) (v::us)) (EP X pins Z Q) X.xe s
theorem Vals.one:∀{x:V} {us:List Value},Vals [x] us->∃u,us=[u]/\RelV x u
 |_,_,.cons r .nil=>⟨_,rfl,r⟩
theorem Vals.zero:∀{us:List Value},Vals [] us->us=[]
 |_,.nil=>rfl
theorem Vals.dropLast{xs:List V}{us:List Value}(h:Vals xs us):Vals xs.dropLast us.dropLast:=by
 induction h with
 |nil=>exact .nil
 |cons r t ih=>
  cases t with
  |nil=>exact .nil
  |cons q t'=>exact .cons r ih
theorem Vals.eraseIdx:∀{xs:List V} {us:List Value} (i:Nat),Vals xs us->Vals (xs.eraseIdx i) (us.eraseIdx i)
 |_,_,_,.nil=>.nil
 |_,_,0,.cons _ t=>t
 |_,_,i+1,.cons r t=>.cons r (Vals.eraseIdx i t)
theorem Vals.rep{xs:List V}{us:List Value}(h:Vals xs us):∀k:Nat,Vals (List.replicate k xs).flatten (List.replicate k us).flatten
 |0=>.nil
 |k+1=>by
  rw[replicate_succ,replicate_succ,flatten_cons,flatten_cons]
  exact Vals.append h (Vals.rep h k)
theorem L1{α:Type}(l:List α):l.eraseIdx (l.length-1)=l.dropLast:=by
 induction l with
 |nil=>rfl
 |cons a r ih=>
  cases r with
  |nil=>rfl
  |cons b r=>
   have e:(a::b::r).length-1=((b::r).length-1)+1:=by
    have h1:(a::b::r).length=r.length+2:=rfl
    have h2:(b::r).length=r.length+1:=rfl
    omega
   rw[e,List.eraseIdx_cons_succ,ih]
   all_goals rfl
theorem Hj{α:Type}:∀(l:List α) (i:Nat),(l.eraseIdx i).length<=l.length
 |[],_=>le_refl _
 |_::_,0=>le_succ _
 |_::r,i+1=>Nat.succ_le_succ (Hj r i)
theorem foldl_rep(its:List Value):∀(k:Nat) (acc:List Value),
  List.foldl (fun x1 x2=>x1++x2) acc.toArray (List.replicate k its.toArray)=(acc++(List.replicate k its).flatten).toArray
 |0,acc=>by simp
 |k+1,acc=>by
  have e:acc.toArray++its.toArray=(acc++its).toArray:=by simp
  have e2:(acc++its)++(List.replicate k its).flatten=acc++(List.replicate (k+1) its).flatten:=by
   rw[replicate_succ,flatten_cons,List.append_assoc]
  rw[<- e2,<- foldl_rep its k (acc++its),<- e,replicate_succ,List.foldl_cons]
section
variable {X:Cx}{pins:List (Addr×Obj)}{Z:St}{H:Hp}{s:Shared}{l b:Addr}{xs ys zs:List V}
theorem Inv.Tt{its its':List Value}{n:Nat}{f:Array Value->Array Value}{t':Nat}(I:Inv X pins Z H s)(hH:H l=some (.lst xs))
  (e:s.heap.get? l=some {cls:=.type "list",data:=.seq its.toArray n}) (hf:f its.toArray=its'.toArray) (hv:Vals ys its') (hz:ys.length<=sizeLine) :
  Inv X pins Z (upd H l (.lst ys)) {s with heap:=s.heap.update l (Obj.mapSeq f),toks:=t'}:=by
 have q:=PySem.IsL.update e f
 rw[hf] at q
 refine I.write (x:=l) (e:=l) (by rw[hH];exact trivial) (.inl rfl) (fun b' u hb hu=>(Heap.get?_update_other s.heap (Obj.mapSeq f) (Ne.symm hb)).trans hu) ⟨_,q⟩ ?_
 exact⟨hz,its',_,hv,q⟩
theorem Inv.Yz{its:List Value}{t':Nat}(I:Inv X pins Z H s)(hv:Vals ys its)(hz:ys.length<=sizeLine) :
  Inv X pins Z (upd H s.heap.objs.size (.lst ys)) {s with heap:=s.heap.push {cls:=.type "list",data:=.seq its.toArray},toks:=t'}:=
 I.laid (fun _ _ q=>Heap.get?_push_of_some _ q) (le_refl _) ⟨hz,its,0,hv,Heap.get?_push_size _ rfl⟩
theorem Inv.fresh(I:Inv X pins Z H s):H s.heap.objs.size=none:=I.hok.fresh (le_refl _)
theorem Inv.MW(I:Inv X pins Z H s)(hH:H l=some (.lst xs)):xs.length<=sizeLine/\∃(its:List Value) (n:Nat),Vals xs its/\xs.length=its.length/\s.heap.get? l=some {cls:=.type "list",data:=.seq its.toArray n}:=by
 obtain⟨z,its,n,r,e⟩:=I.hok l _ hH
 exact⟨z,its,n,r,r.length,e⟩
theorem RL{n:Nat}(h:n<=sizeLine):Builtin.List.listTooLong n=false:=by
 unfold Builtin.List.listTooLong
 exact decide_eq_false ∅
end
section
variable {X:Cx}
def TQ:V->List V->Hp->VK->Prop:=fun x vs H Q=>∃l xs y,x = .ref l/\vs=[y]/\H l=some (.lst xs)/\xs.length<sizeLine/\Q .non (upd H l (.lst (xs++[y])))
theorem sr:MtM X "list.append" TQ:=by
 intro pins s Z H x vs v us Q I rx rv h
 obtain⟨l,xs,y,rfl,rfl,hH,hz,q⟩:=h
 cases rx
 obtain⟨u,rfl,ru⟩:=rv.one
 obtain⟨z,its,n,r,hl,e⟩:=I.MW hH
 refine call_meets F.slot_list_append ⟨_,e,rfl⟩ F.entry_list_append (F.args_list_append_2 _ _) (PySem.list_append l its.toArray n u (by rw[size_toArray];omega)) ⟨e,?_⟩
 refine⟨.non,_,I.Tt (its':=its++[u]) hH e (by simp) (r.append (.cons ru .nil)) ?_,rfl,q⟩
 rw[length_append,length_singleton]
 omega
def SG:V->List V->Hp->VK->Prop:=fun x vs H Q=>∃l b xs zs,x = .ref l/\vs=[.ref b]/\H l=some (.lst xs)/\H b=some (.lst zs)/\xs.length+zs.length<=sizeLine/\Q .non (upd H l (.lst (xs++zs)))
theorem Wr:MtM X "list.extend" SG:=by
 intro pins s Z H x vs v us Q I rx rv h
 obtain⟨l,b,xs,zs,rfl,rfl,hH,hB,hz,q⟩:=h
 cases rx
 obtain⟨u,rfl,ru⟩:=rv.one
 cases ru
 obtain⟨z,its,n,r,hl,e⟩:=I.MW hH
 obtain⟨z2,its2,n2,r2,hl2,e2⟩:=I.MW hB
 have hsz:its.toArray.size+its2.toArray.size<=sizeLine:=by rw[size_toArray,size_toArray];omega
 have hlong:¬ (!its.toArray.isEmpty&&Builtin.List.listTooLong (its.toArray.size+its2.toArray.size))=true:=by
  rw[RL hsz,Bool.and_false]
  exact Bool.false_ne_true
 refine call_meets F.slot_list_extend ⟨_,e,rfl⟩ F.entry_list_extend (F.args_list_extend_2 _ _)
  (AutoSeq1.list_extend_list_list_0 l its.toArray n b its2.toArray n2 hlong (by rw[size_toArray];omega) ∅) ⟨e,e2,?_⟩
 refine⟨.non,_,I.Tt (its':=its++its2) hH e (by simp) (r.append r2) ?_,rfl,q⟩
 rw[length_append]
 omega
def Ye:V->List V->Hp->VK->Prop:=fun x vs H Q=>∃l xs y,x = .ref l/\vs=[]/\H l=some (.lst xs)/\xs[xs.length-1]? = some y/\Q y (upd H l (.lst xs.dropLast))
theorem Vf:MtM X "list.pop" Ye:=by
 intro pins s Z H x vs v us Q I rx rv h
 obtain⟨l,xs,y,rfl,rfl,hH,hy,q⟩:=h
 cases rx
 have hus:=rv.zero
 subst hus
 obtain⟨z,its,n,r,hl,e⟩:=I.MW hH
 obtain⟨u,hu,ru⟩:=r.get hy
 have hy':its.toArray[its.toArray.size-1]? = some u:=by
  show its.toArray[its.length-1]? = some u
  rw[<- Array.getElem?_toList,<- hl]
  exact hu
 refine call_meets F.slot_list_pop ⟨_,e,rfl⟩ F.entry_list_pop (F.args_list_pop_1 _) (MeetsSeq.list_pop_last l its.toArray n u hy' (by rw[size_toArray];omega)) ⟨e,?_⟩
 refine⟨y,_,I.Tt (its':=its.dropLast) hH e ?_ r.dropLast ?_,ru,q⟩
 ·show its.toArray.eraseIdxIfInBounds (its.toArray.size-1)=its.dropLast.toArray
  rw[size_toArray,List.eraseIdxIfInBounds_toArray,L1]
 ·rw[List.length_dropLast]
  omega
def Vj:V->List V->Hp->VK->Prop:=fun x vs H Q=>∃l xs i k y,x = .ref l/\vs=[.int i]/\H l=some (.lst xs)/\-(2 ^ 63)<=i/\i<2 ^ 63/\seqIndex? i xs.length=some k/\xs[k]? = some y/\Q y (upd H l (.lst (xs.eraseIdx k)))
theorem RU:MtM X "list.pop" Vj:=by
 intro pins s Z H x vs v us Q I rx rv h
 obtain⟨l,xs,i,k,y,rfl,rfl,hH,h1,h2,hk,hy,q⟩:=h
 cases rx
 obtain⟨u,rfl,ru⟩:=rv.one
 obtain⟨t,rfl⟩:=ru
 obtain⟨z,its,n,r,hl,e⟩:=I.MW hH
 obtain⟨w,hw,rw'⟩:=r.get hy
 refine call_meets F.slot_list_pop ⟨_,e,rfl⟩ F.entry_list_pop (F.args_list_pop_2 _ _)
  (MeetsSeq.list_pop_at l its.toArray n i t k w (fitsIndex_both h1 h2) (by rw[size_toArray,<- hl];exact hk) (by rw[<- Array.getElem?_toList];exact hw) (by rw[size_toArray];omega)) ⟨e,?_⟩
 refine⟨y,_,I.Tt (its':=its.eraseIdx k) hH e ?_ (r.eraseIdx k) ?_,rw',q⟩
 ·show its.toArray.eraseIdxIfInBounds k=(its.eraseIdx k).toArray
  rw[List.eraseIdxIfInBounds_toArray]
 ·have:=Hj xs k
  omega
noncomputable def Vp:R2:=fun x y H Q=>∃l b xs zs,x = .ref l/\y = .ref b/\H l=some (.lst xs)/\H b=some (.lst zs)/\xs.length+zs.length<=sizeLine/\∀p,H p=none->Q (.ref p) (upd H p (.lst (xs++zs)))
theorem Wa:OpR X (binaryOp .Add) Vp:=by
 intro pins s Z H x y v u Q I rx ry h
 obtain⟨l,b,xs,zs,rfl,rfl,hH,hB,hz,q⟩:=h
 cases rx
 cases ry
 obtain⟨z,its,n,r,hl,e⟩:=I.MW hH
 obtain⟨z2,its2,n2,r2,hl2,e2⟩:=I.MW hB
 refine PySem.P.add_list e e2 ?_ (by rw[size_toArray,size_toArray];omega)
 have ea:its.toArray++its2.toArray=(its++its2).toArray:=by simp
 rw[ea]
 exact⟨.ref _,_,I.Yz (t':=s.toks) (r.append r2) (by rw[length_append];omega),rfl,q _ I.fresh⟩
theorem len_rep{α:Type}(xs:List α)(k:Nat):(List.replicate k xs).flatten.length=k*xs.length:=by
 induction k with
 |zero=>simp
 |succ k ih=>rw[replicate_succ,flatten_cons,length_append,ih,Nat.succ_mul,Nat.add_comm]
end
end L2
namespace Att
open PySem PySem.W PySem.Calls PyProof.Rows
theorem C8{P:Params}{h:Heap}:∀(ns:List Int) (vs:List Value),WellAll P h vs (ns.map WData.int)->IntsAre vs ns:=by
 intro ns
 induction ns with
 |nil=>
  intro vs w
  rw[map_nil] at w
  cases w
  exact .nil
 |cons n ns ih=>
  intro vs w
  rw[map_cons] at w
  cases w with
  |cons a b=>
   cases a
   exact .cons _ _ (ih _ b)
theorem OX{l:OpenLaw}{n:Nat}(hn:l.most=some n){P:Params}{h:Heap}{args:List WData}{vals:List Value}
  (hpre:l.row.toRowW.claim.pre args=true) (hwl:WellAll P h vals args) :
  ∃a vs ns,vals=[Value.ref a]/\args=[WData.list (ns.map WData.int)]/\h.get? a=some {cls:=.type "list",data:=.seq vs.toArray}/\IntsAre vs ns/\ns.length<=n:=by
 have hsh:WShape.hasAll [] args [.list .int]=true:=(pre_splitW hpre).1
 have hc:l.pre.holds [] {args:=args} = true:=(pre_splitW hpre).2
 obtain⟨d,r,rfl,h1,h2⟩:=hasAllW_cons hsh
 obtain rfl:=hasAllW_nil h2
 obtain⟨xs,rfl,h3⟩:=hasW_list h1
 obtain⟨ns,rfl⟩:=items_int h3
 have hlen:ns.length<=n:=by
  unfold OpenLaw.pre at hc
  have h4:(WTm.not (.lt (.lit (.int (n:Int))) (.len (.arg 0)))).holds [] {args:=[.list (ns.map .int)]} = true:=by
   have h4:=(holds_andW hc).1
   rw[hn] at h4
   exact h4
  have h5:=condW_of h4 (w_not (w_lt w_lit (w_len_list (w_arg rfl))))
  rw[length_map] at h5
  refine Nat.le_of_not_lt fun q=>?_
  have q':(n:Int)<((ns.length:Nat):Int):=by omega
  first
   |(rw[decide_eq_true q'] at h5;exact absurd h5 ⋯)
   |(simp at h5;omega)
 cases hwl with
 |cons w1 w2=>
  cases w2
  cases w1 with
  |list ho hall=>exact⟨_,_,ns,rfl,rfl,ho,C8 ns _ hall,hlen⟩
theorem OO(l:OpenLaw)(args:List WData):l.row.toRowW.claim.post args (.bool true) args=true:=
 postW_of (r:=l.row.toRowW) (X:=(true==true))
  (show WShape.has [] (.bool true) .bool=true by first|rfl|decide|simp[WShape.has,WShape.arms,WShape.armsAll])
  (show (WTm.eq .res (.lit (.bool true))).value [] {args:=args,res:=some (.bool true),after:=args} = some (.bool (true==true)) from w_eq_bool (w_res rfl) w_lit) rfl
theorem LU{l:OpenLaw}{n:Nat}{q:Program}{loose:List Str}{XP:(Str->Option Value)->Heap->Prop}{YP:World->Heap->Prop}{d:DefRec}
  (hn:l.most=some n) (hdf:d.params.defaults=[])
  (call:∀(w:World) (dL cr:Shared) (mg mb:Str->Option Value) (fa:Addr) (o:Obj) (pm cd doc:Value) (a:Addr) (vs:List Value) (ns:List Int),
   Ground q loose [] XP w dL mg mb cr.heap->YP w cr.heap ->
   cr.heap.get? fa=some o->o.data = .func (docDef d.name d.params d.body d.scope pm cd doc)->cr.heap.CodeRec cd d.name->mg d.name=some (.ref fa) ->
   cr.heap.get? a=some {cls:=.type "list",data:=.seq vs.toArray}->IntsAre vs ns->ns.length<=n->cr.gens = #[] ->
   codeAny (model l.prog w) callerA (.call (.ref fa) ⟨[.ref a],[]⟩) (fun r s'=>r = .ok (.ret (.bool true))/\OldK cr.heap s'.heap/\s'.os=cr.os/\AllBare s'.gens) cr) :
  WalkO q loose XP YP l.row.toRowW d [] (fun f vs=>PySem.call f vs):=by
 intro w dL cr mg mb G ZZ fa o pm cd doc dV kV ho hd hcd hD hmg hg args vals as hpre hlay hrd hwl hlo
 obtain rfl:dV = .none:=Dflts.none hD hdf
 obtain rfl:kV = .none:=Dflts.noKw hD
 obtain⟨a,vs,ns,rfl,rfl,hobj,hints,hlen⟩:=OX hn hpre hwl
 refine enter_call (codeAny_mono (call w dL cr mg mb fa o pm cd doc a vs ns G ZZ ho (fd_plain hd) hcd hmg hobj hints hlen hg) fun r s' hq=>?_)
 obtain⟨rfl,h2,h3,h4⟩:=hq
 exact⟨.inl ⟨.bool true,.bool true,[],rfl,fun _=>rfl,.bool true,OO l _,fun _=>⟨List.Pairwise.nil,fun _ hm=>(nomatch hm)⟩⟩,h2,h3,h4⟩
end Att
namespace L2
open PySem PySem.Spec PyProof.Rows
theorem Hy:∀{vs:List Value} {ns:List Int},IntsAre vs ns->Vals (ns.map V.int) vs
 |_,_,.nil=>.nil
 |_,_,.cons n t h=>.cons ⟨t,rfl⟩ (Hy h)
end L2
namespace L2
open PySem PySem.Spec PyProof.Rows
end L2
namespace L2
open PySem PySem.Spec PyProof.Rows
noncomputable abbrev CX0:CXT:=fun _ _ _ _ _ _=>False
noncomputable abbrev E0:XK:=fun _ _ _=>False
theorem Wv{X:Cx}:Passes CX0 X E0:=fun _ _ _ _ _ _ _ h=>h.elim
structure Fun(K:PySem.W.Frag)(x qual:Str)(st:Stmt)(f:Addr)(fd:FuncData):Prop where
 ex:∃(oc:Value) (od:Option Addr) (kV doc pm:Value) (an:Option Addr) (cdv ct:Value) (osl:Array (Option Value)),
  fd=fnOf x qual (rF st) (iL st) (aC st) .none kV doc pm an cdv ct/\K.lookup f=some ⟨oc,od,.func fd,osl⟩/\codeIn K cdv qual=true
 kp:keepIn K (.ref f)=true
section
variable {P:Program}{w:World}{K:PySem.W.Frag}{mg:Str->Option Value}{base:Heap}
theorem Fun.ok{x qual:Str}{st:Stmt}{f:Addr}{fd:FuncData}{N ps:List Str}{k:Nat}{sp:Sp}(F:Fun K x qual st f fd)(S:aN N ps (aC st))(len:∀vs H Q E,sp vs H Q E->vs.length=ps.length)
  (hbody:∀(cdv:Value) (A:Around) (outer:List Env) (s:Shared) (H:Hp) (vs:List V) (Q:VK) (E:XK),j5 k (A.deeper (envOfC qual (aC st) s.heap.objs.size f cdv))->sp vs H Q E ->
   ∃t,PSs (rQ CX0 P w K mg base N qual (aC st) f cdv A outer s H E).nox (iL st) t/\t {nx:=fun _ H'=>Q .non H',rt:=Q} (start N vs) H):bO P w K mg base CX0 (k+1) f fd ps sp:=by
 obtain⟨oc,od,kV,doc,pm,an,cdv,ct,osl,rfl,lk,hcd⟩:=F.ex
 refine R7 lk hcd S len fun A outer s H vs Q E hr hsp=>?_
 obtain⟨t,h,q⟩:=hbody cdv A outer s H vs Q E hr hsp
 exact⟨t,h.nox,q⟩
theorem Fun.binds{x qual:Str}{st:Stmt}{f:Addr}{fd:FuncData}{ps:List Str}(F:Fun K x qual st f fd)
  (h:∀(kV doc pm:Value) (an:Option Addr) (cdv ct:Value) (us:List Value),us.length=ps.length->bindArgs (fnOf x qual (rF st) (iL st) (aC st) .none kV doc pm an cdv ct) ⟨us,[]⟩=pure (ps.zip us)):Binds K fd ps []:=by
 obtain⟨oc,od,kV,doc,pm,an,cdv,ct,osl,rfl,lk,hcd⟩:=F.ex
 exact .all (h kV doc pm an cdv ct)
theorem bC{x qual:Str}{st:Stmt}{f:Addr}{oc:Value}{od an:Option Addr}{osl:Array (Option Value)}{kV doc pm cdv ct:Value}(l:K.lookup f=some ⟨oc,od,.func (fnOf x qual (rF st) (iL st) (aC st) .none kV doc pm an cdv ct),osl⟩)
  (c:codeIn K cdv qual=true) (k:keepIn K (.ref f)=true):Fun K x qual st f (fnOf x qual (rF st) (iL st) (aC st) .none kV doc pm an cdv ct):=⟨⟨oc,od,kV,doc,pm,an,cdv,ct,osl,rfl,l,c⟩,k⟩
end
theorem gm{n:Nat}(h:n<=1000):n<sizeLine:=Nat.lt_of_le_of_lt h ⋯
theorem Df{A B:Prop}(h:B):if false=true then A else B:=by
 rw[if_neg Bool.false_ne_true]
 exact h
theorem BX{A B:Prop}(h:A):if true=true then A else B:=by
 rw[if_pos rfl]
 exact h
noncomputable def EV(H H':Hp):Prop:=∀b o,H b=some o->H' b=some o
theorem EV.refl(H:Hp):EV H H:=fun _ _ h=>h
end L2
namespace NM
@[irreducible] def Sz (n:Nat) (i:Int):Prop:=i.natAbs<2 ^ n
theorem Sz.mono{n m:Nat}{i:Int}(h:Sz n i)(l:n<=m):Sz m i:=by unfold Sz at *;exact lt_of_lt_of_le h (Nat.pow_le_pow_right ⋯ l)
theorem Sz.mul{n m:Nat}{i j:Int}(h:Sz n i)(g:Sz m j):Sz (n+m) (i*j):=by
 unfold Sz at *
 rw[natAbs_mul,Nat.pow_add]
 exact Nat.mul_lt_mul'' h g
theorem Sz.add{n:Nat}{i j:Int}(h:Sz n i)(g:Sz n j):Sz (n+1) (i+j):=by
 unfold Sz at *
 have:=Int.natAbs_add_le i j
 rw[Nat.pow_succ]
 omega
theorem Sz.neg{n:Nat}{i:Int}(h:Sz n i):Sz n (-i):=by unfold Sz at *;rw[Int.natAbs_neg];exact h
theorem Sz.sub{n:Nat}{i j:Int}(h:Sz n i)(g:Sz n j):Sz (n+1) (i-j):=by rw[Int.sub_eq_add_neg];exact h.add g.neg
theorem Sz.le{n:Nat}{i j:Int}(h:Sz n i)(g:j.natAbs<=i.natAbs):Sz n j:=by unfold Sz at *;exact Nat.lt_of_le_of_lt g h
theorem Sz.of{n:Nat}{i:Int}(h:i.natAbs<2 ^ n):Sz n i:=by unfold Sz;exact h
theorem Sz.lt{n:Nat}{i:Int}(h:Sz n i):i.natAbs<2 ^ n:=by unfold Sz at h;exact h
def g3(a b c:Int):Nat:=Int.gcd (Int.gcd a b:Nat) c
theorem TR(a b c:Int):Int.gcd (Int.gcd c a:Nat) b=g3 a b c:=by
 unfold g3
 simp only[Int.gcd,Int.natAbs_natCast]
 rw[Nat.gcd_assoc,Nat.gcd_comm]
theorem RH(a b c:Int):((g3 a b c:Nat):Int) ∣ a/\((g3 a b c:Nat):Int) ∣ b/\((g3 a b c:Nat):Int) ∣ c:=by
 have h:((g3 a b c:Nat):Int) ∣ ((Int.gcd a b:Nat):Int):=Int.gcd_dvd_left ..
 exact⟨Int.dvd_trans h (Int.gcd_dvd_left ..),Int.dvd_trans h (Int.gcd_dvd_right ..),Int.gcd_dvd_right ..⟩
theorem U7{a b c:Int}{k:Nat}(h1:(k:Int) ∣ a)(h2:(k:Int) ∣ b)(h3:(k:Int) ∣ c):k ∣ g3 a b c:=by
 unfold g3
 exact Int.dvd_gcd (Int.natCast_dvd_natCast.mpr (Int.dvd_gcd h1 h2)) h3
theorem ID{a b c:Int}(h:c≠0):0<g3 a b c:=by
 unfold g3
 exact Int.gcd_pos_of_ne_zero_right _ h
theorem HM(a b c k:Int):g3 (a*k) (b*k) (c*k)=g3 a b c*k.natAbs:=by
 unfold g3
 simp only[Int.gcd,Int.natAbs_natCast,natAbs_mul,Nat.gcd_mul_right]
theorem Qz(a b c:Int):g3 a (-b) c=g3 a b c:=by
 unfold g3
 rw[Int.gcd_neg]
theorem Rm(a b c:Int):g3 (-a) b c=g3 a b c:=by
 unfold g3
 rw[Int.neg_gcd]
structure N3 where
 a:Int
 b:Int
 c:Int
deriving DecidableEq
theorem N3.ext'{x y:N3}(h1:x.a=y.a)(h2:x.b=y.b)(h3:x.c=y.c):x=y:=by cases x;cases y;simp_all
structure Ok(x:N3):Prop where
 c:0<x.c
 g:g3 x.a x.b x.c=1
def dv(a b c:Int):Int:=if c<0 then -(g3 a b c:Nat) else (g3 a b c:Nat)
def low(a b c:Int):N3:=⟨a.fdiv (dv a b c),b.fdiv (dv a b c),c.fdiv (dv a b c)⟩
theorem Jf{a k q:Int}(hk:k≠0)(h:a=k*q):a.fdiv k=q:=by
 subst h
 exact Int.mul_fdiv_cancel_left q hk
theorem Xg{a b c:Int}(h:c≠0):dv a b c≠0:=by
 have:=ID (a:=a) (b:=b) h
 unfold dv
 split<;>omega
theorem Wn(a b c:Int):dv a b c ∣ a/\dv a b c ∣ b/\dv a b c ∣ c:=by
 obtain⟨h1,h2,h3⟩:=RH a b c
 unfold dv
 split
 ·exact⟨Int.neg_dvd.mpr h1,Int.neg_dvd.mpr h2,Int.neg_dvd.mpr h3⟩
 ·exact⟨h1,h2,h3⟩
theorem qB(a b:Int){c:Int}(h:c≠0):∃k:Int,k≠0/\(0<k↔0<c)/\a=k*(low a b c).a/\b=k*(low a b c).b/\c=k*(low a b c).c/\Ok (low a b c):=by
 have hk:=Xg (a:=a) (b:=b) h
 obtain⟨⟨p,hp⟩,⟨q,hq⟩,⟨r,hr⟩⟩:=Wn a b c
 have ep:(low a b c).a=p:=Jf hk hp
 have eq:(low a b c).b=q:=Jf hk hq
 have er:(low a b c).c=r:=Jf hk hr
 have hg:=ID (a:=a) (b:=b) h
 have hs:0<dv a b c↔0<c:=by unfold dv;split<;>omega
 have hr0:0<r:=by
  have hr':r≠0:=fun z=>h (by rw[hr,z,Int.mul_zero])
  rcases Int.lt_trichotomy 0 (dv a b c) with z|z|z
  ·have:=hs.mp z
   rw[hr] at this
   rw[Int.mul_comm] at this
   exact Int.pos_of_mul_pos_left this z |> fun t=>t
  ·exact absurd z.symm hk
  ·have:c<0:=by omega
   rcases Int.lt_trichotomy 0 r with w|w|w
   ·exact w
   ·exact absurd w.symm hr'
   ·have:=Int.mul_pos_of_neg_of_neg z w
    rw[<- hr] at this
    omega
 refine⟨dv a b c,hk,hs,by rw[ep];exact hp,by rw[eq];exact hq,by rw[er];exact hr,by rw[er];exact hr0,?_⟩
 rw[ep,eq,er]
 have e:=HM p q r (dv a b c)
 rw[Int.mul_comm p,Int.mul_comm q,Int.mul_comm r,<- hp,<- hq,<- hr] at e
 have e2:(dv a b c).natAbs=g3 a b c:=by unfold dv;split<;>simp
 rw[e2] at e
 have:g3 p q r*g3 a b c=1*g3 a b c:=by omega
 exact Nat.eq_of_mul_eq_mul_right hg this
theorem mW(a b:Int){c:Int}(h:c≠0):Ok (low a b c):=(qB a b h).choose_spec.2.2.2.2.2
theorem Ok.same{x y:N3}(hx:Ok x)(hy:Ok y)(h1:x.a*y.c=y.a*x.c)(h2:x.b*y.c=y.b*x.c):x=y:=by
 have key:∀{u v:N3},Ok u->Ok v->u.a*v.c=v.a*u.c->u.b*v.c=v.b*u.c->u.c ∣ v.c:=fun {u v} hu hv e1 e2=>by
  have hd:u.c.natAbs ∣ g3 (u.a*v.c) (u.b*v.c) (u.c*v.c):=U7
   (by rw[Int.natAbs_of_nonneg (le_of_lt hu.c),e1];exact Int.dvd_mul_left _ _) (by rw[Int.natAbs_of_nonneg (le_of_lt hu.c),e2];exact Int.dvd_mul_left _ _) (by rw[Int.natAbs_of_nonneg (le_of_lt hu.c)];exact Int.dvd_mul_right _ _)
  rw[HM,hu.g,Nat.one_mul] at hd
  exact Int.natAbs_dvd_natAbs.mp hd
 have hc:x.c=y.c:=Int.dvd_antisymm (le_of_lt hx.c) (le_of_lt hy.c) (key hx hy h1 h2) (key hy hx h1.symm h2.symm)
 have hn:y.c≠0:=by have:=hy.c;omega
 rw[hc] at h1 h2
 exact N3.ext' (eq_of_mul_eq_mul_right hn h1) (eq_of_mul_eq_mul_right hn h2) hc
theorem VE{a b c a' b' c':Int}(h:c≠0)(h':c'≠0)(e1:a*c'=a'*c)(e2:b*c'=b'*c):low a b c=low a' b' c':=by
 obtain⟨k,hk,_,p1,p2,p3,o⟩:=qB a b h
 obtain⟨l,hl,_,q1,q2,q3,o'⟩:=qB a' b' h'
 generalize low a b c=x at *
 generalize low a' b' c'=y at *
 subst p1 p2 p3 q1 q2 q3
 have hkl:k*l≠0:=mul_ne_zero hk hl
 refine o.same o' (Int.eq_of_mul_eq_mul_left hkl (by grind)) (Int.eq_of_mul_eq_mul_left hkl (by grind))
theorem Ok.low{x:N3}(h:Ok x):low x.a x.b x.c=x:=by
 have hc:x.c≠0:=by have:=h.c;omega
 obtain⟨k,hk,_,p1,p2,p3,o⟩:=qB x.a x.b hc
 refine o.same h ?_ ?_
 ·exact Int.eq_of_mul_eq_mul_left hk (by grind)
 ·exact Int.eq_of_mul_eq_mul_left hk (by grind)
theorem Ok.U0{x:N3}{a b c:Int}(h:Ok x)(hc:c≠0)(e1:x.a*c=a*x.c)(e2:x.b*c=b*x.c):x=NM.low a b c:=by
 have q:=VE (by have:=h.c;omega) hc e1 e2
 rw[h.low] at q
 exact q
theorem Vu(a b:Int){c:Int}(h:c≠0):(low a b c).a.natAbs<=a.natAbs/\(low a b c).b.natAbs<=b.natAbs/\(low a b c).c.natAbs<=c.natAbs:=by
 obtain⟨k,hk,_,p1,p2,p3,_⟩:=qB a b h
 have hk':1<=k.natAbs:=by omega
 have le:∀{u v:Int},u=k*v->v.natAbs<=u.natAbs:=fun {u v} e=>by
  rw[e,natAbs_mul]
  exact Nat.le_mul_of_pos_left _ hk'
 exact⟨le p1,le p2,le p3⟩
structure Bd(n:Nat)(x:N3):Prop where
 a:Sz n x.a
 b:Sz n x.b
 c:Sz n x.c
theorem Bd.mono{n m:Nat}{x:N3}(h:Bd n x)(l:n<=m):Bd m x:=⟨h.a.mono l,h.b.mono l,h.c.mono l⟩
theorem o8{a b c:Int}{n:Nat}(h:c≠0)(ha:Sz n a)(hb:Sz n b)(hc:Sz n c):Bd n (low a b c):=by
 obtain⟨h1,h2,h3⟩:=Vu a b h
 exact⟨ha.le h1,hb.le h2,hc.le h3⟩
def plus(x y:N3):N3:=low (x.a*y.c+y.a*x.c) (x.b*y.c+y.b*x.c) (x.c*y.c)
def less(x y:N3):N3:=low (x.a*y.c-y.a*x.c) (x.b*y.c-y.b*x.c) (x.c*y.c)
def times(d:Int)(x y:N3):N3:=low (x.a*y.a+d*x.b*y.b) (x.a*y.b+x.b*y.a) (x.c*y.c)
def norm(d:Int)(x:N3):Int:=x.a*x.a-d*x.b*x.b
def bV(d:Int)(x:N3):N3:=low (x.c*x.a) (-x.c*x.b) (norm d x)
def S0(x:N3):N3:=⟨x.a,-x.b,x.c⟩
def minus(x:N3):N3:=⟨-x.a,-x.b,x.c⟩
def bL:N3:=⟨0,0,1⟩
def one:N3:=⟨1,0,1⟩
theorem Ok.cn{x:N3}(h:Ok x):x.c≠0:=by have:=h.c;omega
theorem C7{x y:N3}(h:Ok x)(g:Ok y):x.c*y.c≠0:=mul_ne_zero h.cn g.cn
theorem vC{x:N3}(h:Ok x):Ok (minus x):=⟨h.c,by show g3 (-x.a) (-x.b) x.c=1;rw[Rm,Qz];exact h.g⟩
theorem gM{x y:N3}(h:Ok x)(g:Ok y):Ok (plus x y):=mW _ _ (C7 h g)
theorem Ta{x y:N3}(h:Ok x)(g:Ok y):Ok (less x y):=mW _ _ (C7 h g)
theorem eR{d:Int}{x y:N3}(h:Ok x)(g:Ok y):Ok (times d x y):=mW _ _ (C7 h g)
theorem fV:Ok bL:=⟨⋯,⋯⟩
theorem qf:Ok one:=⟨⋯,⋯⟩
theorem AB{n:Nat}{x:N3}(h:Bd n x):Bd n (minus x):=⟨h.a.neg,h.b.neg,h.c⟩
theorem N7{n m:Nat}{x y:N3}(hx:Ok x)(hy:Ok y)(h:Bd n x)(g:Bd m y):Bd (n+m+1) (plus x y):=
 o8 (C7 hx hy) ((h.a.mul g.c).add ((g.a.mul h.c).mono ∅)) ((h.b.mul g.c).add ((g.b.mul h.c).mono ∅)) ((h.c.mul g.c).mono ∅)
theorem Ba{d:Int}(h:2<=d)(h':d<=30):Sz 5 d:=by unfold Sz;omega
theorem Fc{n m:Nat}{d:Int}{x y:N3}(hd:Sz 5 d)(hx:Ok x)(hy:Ok y)(h:Bd n x)(g:Bd m y):Bd (n+m+6) (times d x y):=
 o8 (C7 hx hy) (((h.a.mul g.a).mono ∅).add (((hd.mul h.b).mul g.b).mono ∅)) ((((h.a.mul g.b).mono (by omega:n+m<=n+m)).add ((h.b.mul g.a).mono ∅)).mono ∅) ((h.c.mul g.c).mono ∅)
theorem Ja{n:Nat}{d:Int}{x:N3}(hd:Sz 5 d)(h:Bd n x):Sz (2*n+6) (norm d x):=by
 have e1:=h.a.mul h.a
 have e2:=(hd.mul h.b).mul h.b
 exact ((e1.mono (by omega:n+n<=5+n+n)).sub e2).mono ∅
theorem Kn{n:Nat}{d:Int}{x:N3}(hd:Sz 5 d)(hn:norm d x≠0)(h:Bd n x):Bd (2*n+6) (bV d x):=
 o8 hn ((h.c.mul h.a).mono ∅) ((h.c.neg.mul h.b).mono ∅) (Ja hd h)
noncomputable def bu(d:Int):Prop:=2<=d/\d<=30/\d≠4/\d≠9/\d≠16/\d≠25
theorem O3{d:Nat}(h:∀m:Nat,m*m≠d):∀{a b:Nat},a*a=d*(b*b)->b=0:=fun {a b} e=>by
 rcases Nat.eq_zero_or_pos b with hb|hb
 ·exact hb
 exfalso
 obtain⟨g,p,q,hg,hc,rfl,rfl⟩:=Nat.exists_coprime' (m:=a) (n:=b) (Nat.gcd_pos_of_pos_right _ hb)
 have e2:(p*p)*(g*g)=(d*(q*q))*(g*g):=by grind
 have e3:p*p=d*(q*q):=Nat.eq_of_mul_eq_mul_right (Nat.mul_pos hg hg) e2
 have hq:q ∣ p*p:=⟨d*q,by rw[e3];grind⟩
 have hq1:q ∣ p:=hc.symm.dvd_of_dvd_mul_left hq
 have hq2:q=1:=by
  have:=Nat.dvd_gcd hq1 (Nat.dvd_refl q)
  rw[hc] at this
  exact Nat.dvd_one.mp this
 subst hq2
 exact h p (by rw[e3];simp)
theorem bu.nat{d:Int}(h:bu d):∀m:Nat,m*m≠d.toNat:=fun m e=>by
 obtain⟨h1,h2,h3,h4,h5,h6⟩:=h
 have hm:m<=5:=by
  rcases lt_or_ge 5 m with z|z
  ·have:=Nat.mul_le_mul z z;omega
  ·exact z
 have:m=0\/m=1\/m=2\/m=3\/m=4\/m=5:=by omega
 rcases this with rfl|rfl|rfl|rfl|rfl|rfl<;>omega
theorem bu.L3{d a b:Int}(h:bu d)(e:a*a=d*b*b):a=0/\b=0:=by
 have hd:d=((d.toNat:Nat):Int):=by have:=h.1;omega
 have e1:a.natAbs*a.natAbs=d.toNat*(b.natAbs*b.natAbs):=by
  have e2:=congrArg Int.natAbs e
  rw[natAbs_mul,natAbs_mul,natAbs_mul] at e2
  rw[e2,Nat.mul_assoc]
  congr 1
  omega
 have hb:=O3 h.nat e1
 have hb':b=0:=by omega
 subst hb'
 have:a*a=0:=by rw[e];simp
 exact⟨by rcases Int.mul_eq_zero.mp this with z|z<;>exact z,rfl⟩
theorem bu.norm{d:Int}{x:N3}(h:bu d)(ok:Ok x)(hx:x≠bL):norm d x≠0:=fun e=>by
 have e':x.a*x.a=d*x.b*x.b:=by unfold NM.norm at e;omega
 obtain⟨h1,h2⟩:=h.L3 e'
 apply hx
 have hg:=ok.g
 rw[h1,h2] at hg
 have hc:=ok.c
 have:x.c=1:=by
  unfold g3 at hg
  simp[Int.gcd] at hg
  omega
 exact N3.ext' h1 h2 this
theorem j0{d:Int}{x:N3}(h:NM.norm d x≠0):Ok (bV d x):=mW _ _ h
def sg(d a b:Int):Int:=
 if a=0/\b=0 then 0 else if 0<=a/\0<=b then 1 else if a<=0/\b<=0 then -1 else if (if d*b*b<a*a then a else b)>0 then 1 else -1
theorem Ui{u v:Int}(hu:0<=u)(h:u*u<=v*v)(hv:0<=v):u<=v:=by
 rcases Int.lt_or_le v u with z|z
 ·have:=Int.mul_lt_mul_of_pos_left z (show 0<u by omega)
  have:=Int.mul_le_mul_of_nonneg_right (le_of_lt z) hv
  omega
 ·exact z
theorem sq_nonneg(u:Int):0<=u*u:=by
 rcases Int.le_total 0 u with h|h
 ·exact mul_nonneg h h
 ·exact Int.mul_nonneg_of_nonpos_of_nonpos h h
noncomputable def P(d a b:Int):Prop:=(0<=a/\0<=b/\¬ (a=0/\b=0))\/(0<a/\b<0/\d*b*b<a*a)\/(a<0/\0<b/\a*a<d*b*b)
theorem mH{d a b:Int}(h:bu d):sg d a b=1↔P d a b:=by
 unfold sg P
 have key:a*a=d*b*b->a=0/\b=0:=h.L3
 by_cases c1:d*b*b<a*a
 ·simp only[c1,if_true];split<;>(try split)<;>(try split)<;>(try split)<;>simp<;>omega
 ·simp only[c1,if_false];split<;>(try split)<;>(try split)<;>(try split)<;>simp<;>omega
theorem Cb{d a b:Int}(h:bu d):sg d (-a) (-b) = - sg d a b:=by
 unfold sg
 have key:a*a=d*b*b->a=0/\b=0:=h.L3
 have e1:d * -b * -b=d*b*b:=by grind
 have e2:-a * -a=a*a:=by grind
 rw[e1,e2]
 by_cases c1:d*b*b<a*a
 ·simp only[c1,if_true];split<;>split<;>(try split)<;>(try split)<;>(try split)<;>(try split)<;>(try split)<;>(try split)<;>omega
 ·simp only[c1,if_false];split<;>split<;>(try split)<;>(try split)<;>(try split)<;>(try split)<;>(try split)<;>(try split)<;>omega
theorem jf{d a b:Int}:sg d a b=0↔a=0/\b=0:=by
 unfold sg;split<;>(try split)<;>(try split)<;>(try split)<;>omega
theorem A2(d a b:Int):sg d a b=0\/sg d a b=1\/sg d a b = -1:=by
 unfold sg;split<;>(try split)<;>(try split)<;>(try split)<;>omega
theorem Xn{d a b:Int}(h:bu d):(a=0/\b=0)\/P d a b\/P d (-a) (-b):=by
 rcases A2 d a b with e|e|e
 ·exact .inl (jf.mp e)
 ·exact .inr (.inl ((mH h).mp e))
 ·exact .inr (.inr ((mH h).mp (by rw[Cb h,e];rfl)))
theorem xj{d a b:Int}(h:bu d)(n:d*b*b<a*a):P d a b↔0<a:=by
 unfold P
 have:=sq_nonneg b
 have h0:0<=d*b*b:=by rw[Int.mul_assoc];exact mul_nonneg (by have:=h.1;omega) this
 have ha:a≠0:=fun z=>by subst z;simp at n;omega
 omega
theorem tI{d a b:Int}(h:bu d)(n:a*a<d*b*b):P d a b↔0<b:=by
 unfold P
 have h0:=sq_nonneg a
 have hb:b≠0:=fun z=>by subst z;simp at n;omega
 omega
theorem Aw{u v:Int}(h:v*v<u*u):0<u+v↔0<u:=by
 have hu:u≠0:=fun z=>by subst z;have:=sq_nonneg v;simp at h;omega
 have l:v.natAbs<u.natAbs:=by
  rcases lt_or_ge v.natAbs u.natAbs with z|z
  ·exact z
  ·have:=Nat.mul_le_mul z z
   have e1:((u.natAbs*u.natAbs:Nat):Int)=u*u:=Int.natAbs_mul_self
   have e2:((v.natAbs*v.natAbs:Nat):Int)=v*v:=Int.natAbs_mul_self
   omega
 omega
theorem mul_pos_iff{u v:Int}(hu:u≠0)(hv:v≠0):0<u*v↔(0<u↔0<v):=by
 rcases Int.lt_or_gt_of_ne hu with h|h<;>rcases Int.lt_or_gt_of_ne hv with g|g
 ·have:=Int.mul_pos_of_neg_of_neg h g;omega
 ·have:=Int.mul_neg_of_neg_of_pos h g;omega
 ·have:=Int.mul_neg_of_pos_of_neg h g;omega
 ·have:=mul_pos h g;omega
theorem FH{u v s t:Int}(hu:0<=u)(h:u<v)(hs:0<=s)(g:s<t):u*s<v*t:=by
 have e1:u*s<=v*s:=Int.mul_le_mul_of_nonneg_right (le_of_lt h) hs
 have e2:v*s<v*t:=Int.mul_lt_mul_of_pos_left g ∅
 omega
theorem dsq{d b:Int}(hd:0<d):0<=d*b*b:=by rw[Int.mul_assoc];exact mul_nonneg (le_of_lt hd) (sq_nonneg b)
theorem WI{d a b p q:Int}(h:bu d)(h1:¬ (a=0/\b=0))(h2:¬ (p=0/\q=0)):P d (a*p+d*b*q) (a*q+b*p)↔(P d a b↔P d p q):=by
 have hd:0<d:=by have:=h.1;omega
 have n1:a*a≠d*b*b:=fun e=>h1 (h.L3 e)
 have n2:p*p≠d*q*q:=fun e=>h2 (h.L3 e)
 have pz:∀{u v:Int},d*v*v<u*u->u≠0:=fun {u v} e z=>by subst z;have:=dsq (b:=v) hd;simp at e;omega
 have qz:∀{u v:Int},u*u<d*v*v->v≠0:=fun {u v} e z=>by subst z;have:=sq_nonneg u;simp at e;omega
 have id1:(a*p+d*b*q)*(a*p+d*b*q)-d*(a*q+b*p)*(a*q+b*p)=(a*a-d*b*b)*(p*p-d*q*q):=by grind
 rcases Int.lt_or_gt_of_ne n1 with c1|c1<;>rcases Int.lt_or_gt_of_ne n2 with c2|c2
 ·have pp:=Int.mul_pos_of_neg_of_neg (show a*a-d*b*b<0 by omega) (show p*p-d*q*q<0 by omega)
  rw[xj h ∅,tI h c1,tI h c2]
  have sq:(a*p)*(a*p)<(d*b*q)*(d*b*q):=by
   have e2:=FH (sq_nonneg a) c1 (sq_nonneg p) c2
   grind
  rw[Int.add_comm,Aw sq,Int.mul_assoc,mul_pos_iff ∅ (mul_ne_zero (qz c1) (qz c2)),mul_pos_iff (qz c1) (qz c2)]
  omega
 ·have pp:=Int.mul_neg_of_neg_of_pos (show a*a-d*b*b<0 by omega) (show 0<p*p-d*q*q by omega)
  rw[tI h ∅,tI h c1,xj h c2]
  have sq:(a*q)*(a*q)<(b*p)*(b*p):=by
   have e2:=FH (sq_nonneg a) c1 (dsq (b:=q) hd) c2
   have e3:d*((a*q)*(a*q))<d*((b*p)*(b*p)):=by grind
   exact Int.lt_of_mul_lt_mul_left e3 (le_of_lt hd)
  rw[Int.add_comm,Aw sq,mul_pos_iff (qz c1) (pz c2)]
 ·have pp:=Int.mul_neg_of_pos_of_neg (show 0<a*a-d*b*b by omega) (show p*p-d*q*q<0 by omega)
  rw[tI h ∅,xj h c1,tI h c2]
  have sq:(b*p)*(b*p)<(a*q)*(a*q):=by
   have e2:=FH (dsq (b:=b) hd) c1 (sq_nonneg p) c2
   have e3:d*((b*p)*(b*p))<d*((a*q)*(a*q)):=by grind
   exact Int.lt_of_mul_lt_mul_left e3 (le_of_lt hd)
  rw[Aw sq,mul_pos_iff (pz c1) (qz c2)]
 ·have pp:=mul_pos (show 0<a*a-d*b*b by omega) (show 0<p*p-d*q*q by omega)
  rw[xj h ∅,xj h c1,xj h c2]
  have sq:(d*b*q)*(d*b*q)<(a*p)*(a*p):=by
   have e2:=FH (dsq (b:=b) hd) c1 (dsq (b:=q) hd) c2
   grind
  rw[Aw sq,mul_pos_iff (pz c1) (pz c2)]
theorem XM{d A x B y:Int}(hd:0<d)(hA:0<=A)(hx:0<=x)(hB:0<=B)(hy:0<=y)(h1:A*A<=d*B*B)(h2:x*x<=d*y*y):A*x<=d*(B*y):=by
 refine Ui (mul_nonneg hA hx) ?_ (mul_nonneg (le_of_lt hd) (mul_nonneg hB hy))
 have:=Int.mul_le_mul h1 h2 (sq_nonneg x) (dsq hd)
 grind
theorem T1{d A x B y:Int}(hd:0<d)(hA:0<=A)(hx:0<=x)(hB:0<=B)(hy:0<=y)(h1:A*A<d*B*B)(h2:x*x<d*y*y):(A+x)*(A+x)<d*(B+y)*(B+y):=by
 have:=XM hd hA hx hB hy (le_of_lt h1) (le_of_lt h2)
 grind
theorem T2{d A x B y:Int}(hd:0<d)(hA:0<=A)(hx:0<=x)(hB:0<=B)(hy:0<=y)(h1:d*B*B<A*A)(h2:d*y*y<x*x):d*(B+y)*(B+y)<(A+x)*(A+x):=by
 have:d*(B*y)<=A*x:=by
  refine Ui (mul_nonneg (le_of_lt hd) (mul_nonneg hB hy)) ?_ (mul_nonneg hA hx)
  have:=FH (dsq (b:=B) hd) h1 (dsq (b:=y) hd) h2
  grind
 grind
theorem Z1{d x1 y1 x2 y2:Int}(hd:0<d)(h1:x1*x1<d*y1*y1)(h2:d*y2*y2<x2*x2)(a1:0<=x2)(a2:x2<=x1)(a3:0<=y1)(a4:y1<=y2):False:=by
 have e1:=Int.mul_le_mul a2 a2 a1 (Int.le_trans a1 a2)
 have e2:=Int.mul_le_mul_of_nonneg_left (Int.mul_le_mul a4 a4 a3 (Int.le_trans a3 a4)) (le_of_lt hd)
 grind
theorem Z2{d x1 y1 x2 y2 x3 y3:Int}(hd:0<d)(h1:x1*x1<d*y1*y1)(h2:d*y2*y2<x2*x2)(h3:d*y3*y3<x3*x3)(a1:0<=x2)(a2:0<=y2)(a3:0<=x3)(a4:0<=y3)(e1:x1=x2+x3)(e2:y1=y2+y3):False:=by
 subst e1 e2
 have:=T2 hd a1 a3 a2 a4 h2 h3
 omega
theorem Z3{d x1 y1 x2 y2 x3 y3:Int}(hd:0<d)(h1:d*y1*y1<x1*x1)(h2:x2*x2<d*y2*y2)(h3:x3*x3<d*y3*y3)(a1:0<=x2)(a2:0<=y2)(a3:0<=x3)(a4:0<=y3)(e1:x1=x2+x3)(e2:y1=y2+y3):False:=by
 subst e1 e2
 have:=T1 hd a1 a3 a2 a4 h2 h3
 omega
theorem Xv{d a b p q u v:Int}(h:bu d)(h1:P d a b)(h2:P d p q)(h3:P d u v)(e1:a+p+u=0)(e2:b+q+v=0):False:=by
 have hd:0<d:=by have:=h.1;omega
 unfold P at h1 h2 h3
 have x1:∀{u c:Int},u*u<c->-u * -u<c:=fun {u c} e=>by grind
 have x2:∀{u c:Int},c<u*u->c < -u * -u:=fun {u c} e=>by grind
 have x3:∀{u c:Int},c<d*u*u->c<d * -u * -u:=fun {u c} e=>by grind
 have x4:∀{u c:Int},d*u*u<c->d * -u * -u<c:=fun {u c} e=>by grind
 rcases h1 with ⟨u1,u2,u3⟩|⟨u1,u2,u3⟩|⟨u1,u2,u3⟩<;>rcases h2 with ⟨v1,v2,v3⟩|⟨v1,v2,v3⟩|⟨v1,v2,v3⟩<;>rcases h3 with ⟨w1,w2,w3⟩|⟨w1,w2,w3⟩|⟨w1,w2,w3⟩<;>(try omega)
 all_goals first
  |exact Z1 hd (x1 u3) (x4 v3) ∅ ∅ ∅ ∅
  |exact Z1 hd (x1 v3) (x4 u3) ∅ ∅ ∅ ∅
  |exact Z1 hd (x1 u3) (x4 w3) ∅ ∅ ∅ ∅
  |exact Z1 hd (x1 w3) (x4 u3) ∅ ∅ ∅ ∅
  |exact Z1 hd (x1 v3) (x4 w3) ∅ ∅ ∅ ∅
  |exact Z1 hd (x1 w3) (x4 v3) ∅ ∅ ∅ ∅
  |exact Z2 hd (x1 u3) (x4 v3) (x4 w3) ∅ ∅ ∅ ∅ ∅ ∅
  |exact Z2 hd (x1 v3) (x4 u3) (x4 w3) ∅ ∅ ∅ ∅ ∅ ∅
  |exact Z2 hd (x1 w3) (x4 u3) (x4 v3) ∅ ∅ ∅ ∅ ∅ ∅
  |exact Z3 hd (x4 u3) (x1 v3) (x1 w3) ∅ ∅ ∅ ∅ ∅ ∅
  |exact Z3 hd (x4 v3) (x1 u3) (x1 w3) ∅ ∅ ∅ ∅ ∅ ∅
  |exact Z3 hd (x4 w3) (x1 u3) (x1 v3) ∅ ∅ ∅ ∅ ∅ ∅
theorem WL{d a b p q:Int}(h:bu d)(h1:P d a b)(h2:P d p q):P d (a+p) (b+q):=by
 rcases Xn (a:=a+p) (b:=b+q) h with ⟨e1,e2⟩|e|e
 ·have ea:p = -a:=by omega
  have eb:q = -b:=by omega
  subst ea eb
  have s1:=(mH h).mpr h1
  have s2:=(mH h).mpr h2
  rw[Cb h,s1] at s2
  omega
 ·exact e
 ·exact (Xv h h1 h2 e ∅ ∅).elim
theorem Mx{d a b p q:Int}(h:bu d):sg d (a*p+d*b*q) (a*q+b*p)=sg d a b*sg d p q:=by
 by_cases h1:a=0/\b=0
 ·obtain⟨rfl,rfl⟩:=h1
  have e:sg d (0:Int) 0=0:=jf.mpr ⟨rfl,rfl⟩
  rw[e];simp[jf]
 by_cases h2:p=0/\q=0
 ·obtain⟨rfl,rfl⟩:=h2
  have e:sg d (0:Int) 0=0:=jf.mpr ⟨rfl,rfl⟩
  rw[e];simp[jf]
 have k:=WI h h1 h2
 have h3:¬ (a*p+d*b*q=0/\a*q+b*p=0):=fun ⟨e1,e2⟩=>by
  have id1:(a*p+d*b*q)*(a*p+d*b*q)-d*(a*q+b*p)*(a*q+b*p)=(a*a-d*b*b)*(p*p-d*q*q):=by grind
  rw[e1,e2] at id1
  simp only[Int.mul_zero,Int.sub_self] at id1
  rcases Int.mul_eq_zero.mp id1.symm with z|z
  ·exact h1 (h.L3 ∅)
  ·exact h2 (h.L3 ∅)
 rw[<- mH h,<- mH h,<- mH h] at k
 have t1:=A2 d a b
 have t2:=A2 d p q
 have t3:=A2 d (a*p+d*b*q) (a*q+b*p)
 have z1:sg d a b≠0:=fun z=>h1 (jf.mp z)
 have z2:sg d p q≠0:=fun z=>h2 (jf.mp z)
 have z3:sg d (a*p+d*b*q) (a*q+b*p)≠0:=fun z=>h3 (jf.mp z)
 rcases t1 with e|e|e<;>rcases t2 with f|f|f<;>rcases t3 with g|g|g<;>simp_all
theorem wB{d a b k:Int}(h:bu d)(hk:0<k):sg d (k*a) (k*b)=sg d a b:=by
 have e:=Mx (a:=k) (b:=0) (p:=a) (q:=b) h
 have e1:sg d k 0=1:=by unfold sg;rw[if_neg ∅,if_pos ∅]
 rw[e1] at e
 simpa using e
end NM
namespace NM
structure Rep(x:N3)(A B C:Int):Prop where
 c:C≠0
 a:x.a*C=A*x.c
 b:x.b*C=B*x.c
section
variable {x y:N3}{A B C A' B' C' d:Int}
theorem cb(h:Ok x):Rep x x.a x.b x.c:=⟨h.cn,rfl,rfl⟩
theorem rq{a b c:Int}(h:c≠0):Rep (low a b c) a b c:=by
 obtain⟨k,hk,_,p1,p2,p3,_⟩:=qB a b h
 generalize low a b c=z at *
 exact⟨h,by grind,by grind⟩
theorem Rep.eq(ox:Ok x)(oy:Ok y)(h:Rep x A B C)(g:Rep y A' B' C')(e1:A*C'=A'*C)(e2:B*C'=B'*C):x=y:=by
 have hc:C*C'≠0:=mul_ne_zero h.c g.c
 obtain⟨_,h1,h2⟩:=h
 obtain⟨_,g1,g2⟩:=g
 exact ox.same oy (eq_of_mul_eq_mul_right hc (by grind)) (eq_of_mul_eq_mul_right hc (by grind))
theorem Rep.minus(h:Rep x A B C):Rep (minus x) (-A) (-B) C:=⟨h.c,by show -x.a*C = -A*x.c;have:=h.a;grind,by show -x.b*C = -B*x.c;have:=h.b;grind⟩
theorem Rep.plus(ox:Ok x)(oy:Ok y)(h:Rep x A B C)(g:Rep y A' B' C'):Rep (plus x y) (A*C'+A'*C) (B*C'+B'*C) (C*C'):=by
 have hc:=C7 ox oy
 obtain⟨_,q1,q2⟩:=rq (a:=x.a*y.c+y.a*x.c) (b:=x.b*y.c+y.b*x.c) hc
 obtain⟨hc1,h1,h2⟩:=h
 obtain⟨hc2,g1,g2⟩:=g
 change (NM.plus x y).a*(x.c*y.c)=_*(NM.plus x y).c at q1
 change (NM.plus x y).b*(x.c*y.c)=_*(NM.plus x y).c at q2
 generalize NM.plus x y=z at *
 exact⟨mul_ne_zero hc1 hc2,eq_of_mul_eq_mul_right hc (by grind),eq_of_mul_eq_mul_right hc (by grind)⟩
theorem Rep.less(ox:Ok x)(oy:Ok y)(h:Rep x A B C)(g:Rep y A' B' C'):Rep (less x y) (A*C'-A'*C) (B*C'-B'*C) (C*C'):=by
 have hc:=C7 ox oy
 obtain⟨_,q1,q2⟩:=rq (a:=x.a*y.c-y.a*x.c) (b:=x.b*y.c-y.b*x.c) hc
 obtain⟨hc1,h1,h2⟩:=h
 obtain⟨hc2,g1,g2⟩:=g
 change (NM.less x y).a*(x.c*y.c)=_*(NM.less x y).c at q1
 change (NM.less x y).b*(x.c*y.c)=_*(NM.less x y).c at q2
 generalize NM.less x y=z at *
 exact⟨mul_ne_zero hc1 hc2,eq_of_mul_eq_mul_right hc (by grind),eq_of_mul_eq_mul_right hc (by grind)⟩
theorem Rep.times(ox:Ok x)(oy:Ok y)(h:Rep x A B C)(g:Rep y A' B' C'):Rep (times d x y) (A*A'+d*B*B') (A*B'+B*A') (C*C'):=by
 have hc:=C7 ox oy
 obtain⟨_,q1,q2⟩:=rq (a:=x.a*y.a+d*x.b*y.b) (b:=x.a*y.b+x.b*y.a) hc
 obtain⟨hc1,h1,h2⟩:=h
 obtain⟨hc2,g1,g2⟩:=g
 change (NM.times d x y).a*(x.c*y.c)=_*(NM.times d x y).c at q1
 change (NM.times d x y).b*(x.c*y.c)=_*(NM.times d x y).c at q2
 generalize NM.times d x y=z at *
 exact⟨mul_ne_zero hc1 hc2,eq_of_mul_eq_mul_right hc (by grind),eq_of_mul_eq_mul_right hc (by grind)⟩
theorem Rep.norm(h:Rep x A B C):NM.norm d x*(C*C)=(A*A-d*B*B)*(x.c*x.c):=by
 obtain⟨_,h1,h2⟩:=h
 unfold NM.norm
 have e1:x.a*x.a*(C*C)=A*A*(x.c*x.c):=by
  have:(x.a*C)*(x.a*C)=(A*x.c)*(A*x.c):=by rw[h1]
  grind
 have e2:x.b*x.b*(C*C)=B*B*(x.c*x.c):=by
  have:(x.b*C)*(x.b*C)=(B*x.c)*(B*x.c):=by rw[h2]
  grind
 grind
theorem Rep.bV(ox:Ok x)(hn:NM.norm d x≠0)(h:Rep x A B C):Rep (bV d x) (C*A) (-C*B) (A*A-d*B*B):=by
 have hN:=h.norm (d:=d)
 have hcc:x.c*x.c≠0:=mul_ne_zero ox.cn ox.cn
 have hN0:A*A-d*B*B≠0:=fun z=>by
  rw[z,Int.zero_mul] at hN
  rcases Int.mul_eq_zero.mp hN with w|w
  ·exact hn w
  ·rcases Int.mul_eq_zero.mp w with w|w<;>exact h.c w
 obtain⟨_,q1,q2⟩:=rq (a:=x.c*x.a) (b:=-x.c*x.b) hn
 change (NM.bV d x).a*NM.norm d x=_*(NM.bV d x).c at q1
 change (NM.bV d x).b*NM.norm d x=_*(NM.bV d x).c at q2
 obtain⟨hc1,h1,h2⟩:=h
 generalize NM.bV d x=z at *
 generalize NM.norm d x=n at *
 generalize A*A-d*B*B=m at *
 refine⟨hN0,?_,?_⟩
 ·have e:z.a*m*(x.c*x.c)=C*A*z.c*(x.c*x.c):=by grind
  exact eq_of_mul_eq_mul_right hcc e
 ·have e:z.b*m*(x.c*x.c) = -C*B*z.c*(x.c*x.c):=by grind
  exact eq_of_mul_eq_mul_right hcc e
theorem Rep.sg(hd:bu d)(ox:Ok x)(h:Rep x A B C)(hC:0<C):sg d x.a x.b=NM.sg d A B:=by
 have e1:=wB (a:=x.a) (b:=x.b) hd hC
 have e2:=wB (a:=A) (b:=B) hd ox.c
 rw[show C*x.a=x.c*A by have:=h.a;grind,show C*x.b=x.c*B by have:=h.b;grind] at e1
 rw[<- e1,e2]
end
end NM
namespace NM
def Oi(d:Int)(x:N3):N3:=times d (times d (plus x (S0 x)) (plus x (S0 x))) (bV d (times d x (S0 x)))
section
variable {d:Int}{x y z:N3}
theorem Dw{a b c:Int}(h:bu d)(hc:0<c):sg d (low a b c).a (low a b c).b=sg d a b:=(rq (show c≠0 by omega)).sg h (mW _ _ ∅) hc
theorem Hn(h:bu d)(ox:Ok x)(oy:Ok y):sg d (times d x y).a (times d x y).b=sg d x.a x.b*sg d y.a y.b:=by
 unfold times
 rw[Dw h (mul_pos ox.c oy.c),Mx h]
theorem DF:sg d one.a one.b=1:=by
 unfold one sg
 rw[if_neg (by simp),if_pos (by simp)]
theorem vL(h:bu d)(ox:Ok x)(hx:sg d x.a x.b=1):norm d x≠0:=h.norm ox (fun e=>by subst e;have:sg d bL.a bL.b=0:=jf.mpr ⟨rfl,rfl⟩;omega)
theorem EC(ox:Ok x)(hn:norm d x≠0):times d x (bV d x)=one:=by
 have oc:=j0 hn
 exact ((cb ox).times ox oc ((cb ox).bV ox hn)).eq (eR ox oc) qf (cb qf) (by simp only[one];grind) (by simp only[one];grind)
theorem CC(h:bu d)(ox:Ok x)(hx:sg d x.a x.b=1):sg d (bV d x).a (bV d x).b=1:=by
 have hn:=vL h ox hx
 have e:=Hn h ox (j0 hn)
 rw[EC ox hn,DF,hx] at e
 omega
def W(x y:N3):Int:=x.b*y.a-x.a*y.b
end
end NM
namespace L2.DL
open PySem PySem.Spec PyProof.Rows
abbrev Mu:=Addr->Option (List PyData)
abbrev PQ:=PySem.W.Frag->V->Mu->Hp->Prop
inductive D where
 |v (x:PyData)
 |m (a:Addr)
 |s (ns:List Int)
  /-- an object that is handed on -/
 |o (a:Addr)
  /-- a thing of which something is known that stays -/
 |q (P:PQ)
abbrev Rho:=List (Option D)
def aR(U:Mu)(a:Addr)(ds:List PyData):Mu:=fun b=>if b=a then some ds else U b
theorem bP{U:Mu}{a:Addr}{ds}:aR U a ds a=some ds:=by unfold aR;rw[if_pos rfl]
theorem bR{U:Mu}{a b:Addr}{ds}(h:b≠a):aR U a ds b=U b:=by unfold aR;rw[if_neg h]
theorem pL{U:Mu}{a:Addr}{ds es}:aR (aR U a ds) a es=aR U a es:=by
 funext b;unfold aR;split<;>rfl
mutual
inductive Rp(K:PySem.W.Frag)(U:Mu)(H:Hp):PyData->V->Prop
 |none:Rp K U H .none .non
 |bool (b:Bool):Rp K U H (.bool b) (.bl b)
 |int (i:Int):Rp K U H (.int i) (.int i)
 |str (x:Str):Rp K U H (.str x) (.str x)
 |list {a:Addr} {xs:List V} {ds:List PyData}:H a=some (.lst xs)->U a=Option.none->RpL K U H ds xs->Rp K U H (.list ds) (.ref a)
 |tuple {a:Addr} {xs:List V} {ds:List PyData}:SqT K H a xs->RpL K U H ds xs->Rp K U H (.tuple ds) (.ref a)
inductive RpL(K:PySem.W.Frag)(U:Mu)(H:Hp):List PyData->List V->Prop
 |nil:RpL K U H [] []
 |cons {d:PyData} {v:V} {ds:List PyData} {vs:List V}:Rp K U H d v->RpL K U H ds vs->RpL K U H (d::ds) (v::vs)
end
def NT:HO->Prop
 |.tbl _=>False
 |_=>True
structure Ext(K:PySem.W.Frag)(U:Mu)(H:Hp)(Y:Mu)(H':Hp):Prop where
 keep:∀b o,H b=some o->U b=none->NT o->H' b=some o
 tb:∀b ps,H b=some (.tbl ps)->U b=none->∃ps',H' b=some (.tbl ps')
 dom:∀b ds,U b=some ds->∃es,Y b=some es
 fresh:∀b,U b=none->(H b≠none\/K.lookup b≠none)->Y b=none
def RpD(K:PySem.W.Frag)(U:Mu)(H:Hp):D->V->Prop
 |.v x,u=>Rp K U H x u
 |.m a,u=>u = .ref a/\∃ds,U a=some ds
 |.s ns,u=>∃a,u = .ref a/\SqL K H a (ns.map V.int)/\U a=none
 |.o a,u=>u = .ref a
 |.q P,u=>∀Y H',Ext K U H Y H'->P K u Y H'
noncomputable def codeAt(c:Addr)(q:Str)(h:Heap):Prop:=∃o vs t,h.get? c=some o/\o.data = .fields vs/\vs[1]? = some (.str q t)
abbrev cS(q:Str):Str:=(q ++ ".<locals>.") ++ "<lambda>"
noncomputable def X9(H:Hp)(P:Addr)(q:Str):Prop:=∃ps:Array Value,H P=some (.tbl ps)/\TriplesOk ps.toList/\∀pos cv,codeAmong pos ps.toList=some cv->∃c,cv = .ref c/\H c=some (.ext (codeAt c (cS q)))
noncomputable def Gm(K:PySem.W.Frag)(H:Hp):Prop:=∀c o P q,K.lookup c=some o->cX o=some (P,q)->X9 H P q
structure dj(K:PySem.W.Frag)(U:Mu)(H:Hp):Prop where
 lst:∀a ds,U a=some ds->∃xs,H a=some (.lst xs)/\RpL K U H ds xs
 tab:Gm K H
instance {K:PySem.W.Frag} {U:Mu} {H:Hp}:CoeFun (dj K U H) fun _=>∀a ds,U a=some ds->∃xs,H a=some (.lst xs)/\RpL K U H ds xs:=⟨dj.lst⟩
theorem Gm.of{K:PySem.W.Frag}{H H1:Hp}(t:Gm K H)(s:∀b o,H b=some o->(∀xs,o≠.lst xs)->H1 b=some o):Gm K H1:=fun c o P q h1 h2=>by
 obtain⟨ps,a1,a2,a3⟩:=t c o P q h1 h2
 exact⟨ps,s _ _ a1 (fun _ z=>nomatch z),a2,fun pos cv e=>let ⟨c,q1,q2⟩:=a3 pos cv e;⟨c,q1,s _ _ q2 (fun _ z=>nomatch z)⟩⟩
noncomputable def gQ(K:PySem.W.Frag)(U:Mu)(H:Hp)(ρ:Rho)(Z:St):Prop:=
 ρ.length=Z.length/\∀(i:Nat) (d:D),ρ[i]? = some (some d)->∃u,Z[i]? = some (some u)/\RpD K U H d u
structure St0(K:PySem.W.Frag)(H:Hp)(ρ:Rho)(U:Mu)(Z:St):Prop where
 mu:dj K U H
 rho:gQ K U H ρ Z
section
variable {K:PySem.W.Frag}{U ac ad:Mu}{H H1 H2:Hp}
theorem Ext.refl:Ext K U H U H:=⟨fun _ _ h _ _=>h,fun _ ps h _=>⟨ps,h⟩,fun _ ds h=>⟨ds,h⟩,fun _ h _=>h⟩
theorem Ext.trans(a:Ext K U H ac H1)(b:Ext K ac H1 ad H2):Ext K U H ad H2 where
 keep:=fun c o h n t=>b.keep c o (a.keep c o h n t) (a.fresh c n (.inl (by rw[h];exact fun z=>nomatch z))) t
 tb:=fun c ps h n=>by
  obtain⟨ps1,h1⟩:=a.tb c ps h n
  exact b.tb c ps1 h1 (a.fresh c n (.inl (by rw[h];exact fun z=>nomatch z)))
 dom:=fun c ds h=>let ⟨es,q⟩:=a.dom c ds h;b.dom c es q
 fresh:=fun c n h=>by
  refine b.fresh c (a.fresh c n h) ?_
  rcases h with h|h
  ·cases q:H c with
   |none=>exact absurd q h
   |some o=>
    by_cases t:NT o
    ·exact .inl (by rw[a.keep c o q n t];exact fun z=>nomatch z)
    ·cases o with
     |tbl ps=>
      obtain⟨ps1,h1⟩:=a.tb c ps q n
      exact .inl (by rw[h1];exact fun z=>nomatch z)
     |_=>exact absurd trivial t
  ·exact .inr h
theorem Ext.of_same(s:EV H H1):Ext K U H U H1:=⟨fun b o h _ _=>s b o h,fun b ps h _=>⟨ps,s b _ h⟩,fun _ ds h=>⟨ds,h⟩,fun _ h _=>h⟩
theorem dj.not{a:Addr}{o:HO}(ok:dj K U H)(h:H a=some o)(n:∀xs,o≠.lst xs):U a=none:=by
 cases q:U a with
 |none=>rfl
 |some ds=>
  obtain⟨ys,e,_⟩:=ok a ds q
  rw[h] at e
  exact absurd (Option.some.inj e) (n ys)
theorem dj.free{a:Addr}(ok:dj K U H)(h:H a=none):U a=none:=by
 cases q:U a with
 |none=>rfl
 |some ds=>
  obtain⟨ys,e,_⟩:=ok a ds q
  rw[h] at e;cases e
theorem JH{a:Addr}{xs:List V}(ok:dj K U H)(e:Ext K U H ac H1)(h:SqT K H a xs):SqT K H1 a xs:=by
 rcases h with (h|⟨o,h⟩)|h
 ·exact .inl (.inl (e.keep _ _ h (ok.not h fun _ z=>nomatch z) trivial))
 ·exact .inl (.inr ⟨o,e.keep _ _ h (ok.not h fun _ z=>nomatch z) trivial⟩)
 ·exact .inr h
theorem NO{a:Addr}{xs:List V}(e:Ext K U H ac H1)(h:SqL K H a xs)(n:U a=none):SqL K H1 a xs/\ac a=none:=by
 rcases h with (h|⟨o,h⟩)|h
 ·exact⟨.inl (.inl (e.keep _ _ h n trivial)),e.fresh _ n (.inl (by rw[h];exact fun z=>nomatch z))⟩
 ·exact⟨.inl (.inr ⟨o,e.keep _ _ h n trivial⟩),e.fresh _ n (.inl (by rw[h];exact fun z=>nomatch z))⟩
 ·obtain⟨o,its,k,hk,r⟩:=id h
  exact⟨.inr h,e.fresh _ n (.inr (by rw[hk];exact fun z=>nomatch z))⟩
mutual
theorem Rp.ext{d:PyData}{u:V}(ok:dj K U H)(e:Ext K U H ac H1):Rp K U H d u->Rp K ac H1 d u
 |.none=>.none
 |.bool b=>.bool b
 |.int i=>.int i
 |.str x=>.str x
 |.list h n r=>.list (e.keep _ _ h n trivial) (e.fresh _ n (.inl (by rw[h];exact fun z=>nomatch z))) (RpL.ext ok e r)
 |.tuple h r=>.tuple (JH ok e h) (RpL.ext ok e r)
theorem RpL.ext{ds:List PyData}{us:List V}(ok:dj K U H)(e:Ext K U H ac H1):RpL K U H ds us->RpL K ac H1 ds us
 |.nil=>.nil
 |.cons h r=>.cons (Rp.ext ok e h) (RpL.ext ok e r)
end
theorem RpD.ext{d:D}{u:V}(ok:dj K U H)(e:Ext K U H ac H1)(r:RpD K U H d u):RpD K ac H1 d u:=by
 cases d with
 |v x=>exact Rp.ext ok e r
 |m a=>obtain⟨h,ds,q⟩:=r;exact⟨h,e.dom a ds q⟩
 |s ns=>obtain⟨a,h,q,n⟩:=r;exact⟨a,h,(NO e q n).1,(NO e q n).2⟩
 |o a=>exact r
 |q P=>exact fun Y H' e'=>r Y H' (e.trans e')
theorem gQ.ext{ρ:Rho}{Z:St}(ok:dj K U H)(e:Ext K U H ac H1)(r:gQ K U H ρ Z):gQ K ac H1 ρ Z:=
 ⟨r.1,fun i d h=>let ⟨u,h1,h2⟩:=r.2 i d h;⟨u,h1,h2.ext ok e⟩⟩
theorem RpL.length{ds:List PyData}{us:List V}:RpL K U H ds us->ds.length=us.length
 |.nil=>rfl
 |.cons _ r=>congrArg (· + 1) (RpL.length r)
theorem RpL.get{ds:List PyData}{us:List V}:∀{i:Nat} {d:PyData},RpL K U H ds us->ds[i]? = some d->∃u,us[i]? = some u/\Rp K U H d u
 |_,_,.nil,h=>by simp at h
 |0,_,.cons r _,h=>by simp at h;subst h;exact⟨_,rfl,r⟩
 |i+1,d,.cons _ t,h=>by
  obtain⟨u,h1,h2⟩:=RpL.get (i:=i) (d:=d) t (by simpa using h)
  exact⟨u,by simpa using h1,h2⟩
theorem RpL.append{ds es:List PyData}{us ws:List V}:RpL K U H ds us->RpL K U H es ws->RpL K U H (ds++es) (us++ws)
 |.nil,s=>s
 |.cons r t,s=>.cons r (RpL.append t s)
theorem RpL.take{ds:List PyData}{us:List V}:∀(n:Nat),RpL K U H ds us->RpL K U H (ds.take n) (us.take n)
 |0,_=>by simp;exact .nil
 |_+1,.nil=>by simp;exact .nil
 |n+1,.cons r t=>.cons r (RpL.take n t)
theorem RpL.drop{ds:List PyData}{us:List V}:∀(n:Nat),RpL K U H ds us->RpL K U H (ds.drop n) (us.drop n)
 |0,r=>r
 |_+1,.nil=>by simp;exact .nil
 |n+1,.cons _ t=>RpL.drop n t
theorem RpL.set{ds:List PyData}{us:List V}{d:PyData}{u:V}(q:Rp K U H d u):∀(i:Nat),RpL K U H ds us->RpL K U H (ds.set i d) (us.set i u)
 |_,.nil=>.nil
 |0,.cons _ t=>.cons q t
 |i+1,.cons r t=>.cons r (RpL.set q i t)
theorem Nt{ds:List PyData}{us:List V}{i:Int}{d:PyData}(r:RpL K U H ds us)(h:atI ds i=some d):∃u,atI us i=some u/\Rp K U H d u:=by
 unfold atI at h ⊢
 rw[<- r.length]
 cases q:ixN ds.length i with
 |none=>rw[q] at h;cases h
 |some j=>
  rw[q] at h
  exact r.get h
abbrev DK:=D->Mu->Prop
abbrev DTE:=Rho->Mu->DK->Prop
abbrev DTT:=Rho->Mu->(Bool->Mu->Prop)->Prop
abbrev DTA:=Rho->Mu->(List D->Mu->Prop)->Prop
structure wV where
 nx:Rho->Mu->Prop
 rt:DK
 bk:Rho->Mu->Prop:=fun _ _=>False
 ct:Rho->Mu->Prop:=fun _ _=>False
abbrev DTS:=wV->Rho->Mu->Prop
inductive n5(K:PySem.W.Frag)(U:Mu)(H:Hp):List D->List V->Prop
 |nil:n5 K U H [] []
 |cons {d:D} {u:V} {ds:List D} {us:List V}:RpD K U H d u->n5 K U H ds us->n5 K U H (d::ds) (u::us)
theorem n5.ext{ds:List D}{us:List V}(ok:dj K U H)(e:Ext K U H ac H1):n5 K U H ds us->n5 K ac H1 ds us
 |.nil=>.nil
 |.cons h r=>.cons (h.ext ok e) (n5.ext ok e r)
theorem n5.length{ds:List D}{us:List V}:n5 K U H ds us->ds.length=us.length
 |.nil=>rfl
 |.cons _ r=>congrArg (· + 1) (n5.length r)
end
noncomputable def AH(K:PySem.W.Frag)(t:TE)(td:DTE):Prop:=∀(Z:St) (H:Hp) (ρ:Rho) (U:Mu) (Qd:DK) (Q:VK),St0 K H ρ U Z->td ρ U Qd ->
 (∀d u Y H',Ext K U H Y H'->St0 K H' ρ Y Z->RpD K Y H' d u->Qd d Y->Q u H')->t Z H Q
noncomputable def R5(K:PySem.W.Frag)(t:TT)(td:DTT):Prop:=∀(Z:St) (H:Hp) (ρ:Rho) (U:Mu) (Qd:Bool->Mu->Prop) (Q:Bool->Hp->Prop),St0 K H ρ U Z->td ρ U Qd ->
 (∀b Y H',Ext K U H Y H'->St0 K H' ρ Y Z->Qd b Y->Q b H')->t Z H Q
noncomputable def Ub(K:PySem.W.Frag)(n:Nat)(t:TA)(td:DTA):Prop:=∀(Z:St) (H:Hp) (ρ:Rho) (U:Mu) (Qd:List D->Mu->Prop) (Q:List V->Hp->Prop),St0 K H ρ U Z->td ρ U Qd ->
 (∀ds us Y H',Ext K U H Y H'->St0 K H' ρ Y Z->n5 K Y H' ds us->ds.length=n->Qd ds Y->Q us H')->t Z H Q
noncomputable def Hb(K:PySem.W.Frag)(t:TS)(td:DTS):Prop:=∀(Z:St) (H:Hp) (ρ:Rho) (U:Mu) (Dd:wV) (De:Ends),St0 K H ρ U Z->td Dd ρ U ->
 (∀al am Y H',Ext K U H Y H'->St0 K H' am Y al->Dd.nx am Y->De.nx al H') ->
 (∀d u Y H',Ext K U H Y H'->dj K Y H'->RpD K Y H' d u->Dd.rt d Y->De.rt u H') ->
 (∀al am Y H',Ext K U H Y H'->St0 K H' am Y al->Dd.bk am Y->De.bk al H') ->
 (∀al am Y H',Ext K U H Y H'->St0 K H' am Y al->Dd.ct am Y->De.ct al H')->t De Z H
noncomputable def DE(X:Cx)(e:Expr)(td:DTE):Prop:=∃t,PE X e t/\AH X.K t td
noncomputable def DT(X:Cx)(e:Expr)(td:DTT):Prop:=∃t,PT X e t/\R5 X.K t td
noncomputable def DA(X:Cx)(es:List Expr)(td:DTA):Prop:=∃t,PA X es t/\Ub X.K es.length t td
noncomputable def DS(X:Cx)(st:Stmt)(td:DTS):Prop:=∃t,PS X st t/\Hb X.K t td
noncomputable def DSs(X:Cx)(st:List Stmt)(td:DTS):Prop:=∃t,PSs X st t/\Hb X.K t td
section
variable {X:Cx}{a b c:Expr}{ta tb tc:DTE}{pos:Pos}
noncomputable def ag(i:Nat):DTE:=fun ρ U Q=>match ρ[i]? with
 |some (some d)=>Q d U
 |_=>False
noncomputable def dC(x:PyData):DTE:=fun _ U Q=>Q (.v x) U
theorem QW{K:PySem.W.Frag}(i:Nat):AH K (Vd i) (ag i):=by
 intro Z H ρ U Qd Q S h k
 unfold ag at h
 split at h
 ·rename_i d e
  obtain⟨u,h1,h2⟩:=S.rho.2 i d e
  exact⟨u,h1,k d u U H .refl S h2 h⟩
 ·exact h.elim
theorem dv(i:Nat){x:Str}{pos:Pos}(hN:X.N[i]? = some x:=by rfl)(hv:Vis X.env.scope x:=by first|exact Or.inl rfl|exact Or.inr (Or.inl rfl)|exact Or.inr (Or.inr rfl))(hd:(x==("__debug__":Str))=false:=by decide)
  (hcd:(x==("__classdict__":Str))=false:=by decide):DE X (.Name x pos) (ag i):=⟨_,L5 hN hv hd hcd,QW i⟩
theorem Fi{K:PySem.W.Frag}{x:PyData}{u:V}(h:∀U H,dj K U H->Rp K U H x u):AH K (tC u) (dC x):=fun Z H ρ U Qd Q S q k=>k (.v x) u U H .refl S (h U H S.mu) q
theorem ah{i j pos}:DE X (.Constant (.int i) j pos) (dC (.int i)):=⟨_,Vb,Fi fun _ _ _=>.int i⟩
theorem kM{i j pos}:DE X (.Constant (.bool i) j pos) (dC (.bool i)):=⟨_,W0,Fi fun _ _ _=>.bool i⟩
theorem IB{j pos}:DE X (.Constant .none j pos) (dC .none):=⟨_,U6,Fi fun _ _ _=>.none⟩
theorem aw{x j pos}:DE X (.Constant (.str x) j pos) (dC (.str x)):=⟨_,Qw,Fi fun _ _ _=>.str x⟩
theorem uA{x:Str}{d:PyData}{u:V}{w:Value}{pos:Pos}(hg:Gl X x)(hm:X.mg x=some w)(r:RelV u w)(h:∀U H,dj X.K U H->Rp X.K U H d u)(hd:(x==("__debug__":Str))=false:=by decide):DE X (.Name x pos) (dC d):=
 ⟨_,Oe hg hm r hd,Fi h⟩
noncomputable def lK(K:PySem.W.Frag)(rr:R2)(r:D->D->Mu->DK->Prop):Prop:=∀(x y:D) (ux uy:V) (H:Hp) (U:Mu) (Qd:DK) (Q:VK),dj K U H->RpD K U H x ux->RpD K U H y uy->r x y U Qd ->
 (∀d u Y H',Ext K U H Y H'->dj K Y H'->RpD K Y H' d u->Qd d Y->Q u H')->rr ux uy H Q
noncomputable def dOp(r:D->D->Mu->DK->Prop)(ta tb:DTE):DTE:=fun ρ U Q=>ta ρ U fun x ac=>tb ρ ac fun y ad=>r x y ad Q
theorem Dv{K:PySem.W.Frag}{rr:R2}{r}{t1 t2:TE}(lo:lK K rr r)(la:AH K t1 ta)(lb:AH K t2 tb):AH K (tOp rr t1 t2) (dOp r ta tb):=by
 intro Z H ρ U Qd Q S h k
 refine la Z H ρ U _ _ S h fun x ux ac H1 e1 S1 rx h1=>?_
 refine lb Z H1 ρ ac _ _ S1 h1 fun y uy ad H2 e2 S2 ry h2=>?_
 exact lo x y ux uy H2 ad _ _ S2.mu (rx.ext S1.mu e2) ry h2 fun d u Y H' e3 ok r q=>k d u Y H' (e1.trans (e2.trans e3)) ⟨ok,S2.rho.ext S2.mu e3⟩ r q
theorem Cn{op:Operator}{rr:R2}{r}(ho:OpR X (binaryOp op) rr)(lo:lK X.K rr r)(ha:DE X a ta)(hb:DE X b tb):DE X (.BinOp a op b pos) (dOp r ta tb):=by
 obtain⟨t1,p1,l1⟩:=ha
 obtain⟨t2,p2,l2⟩:=hb
 exact⟨_,W6 ho p1 p2,Dv lo l1 l2⟩
theorem fN{op:CmpOp}{rr:R2}{r}(ho:OpR X (compareOp op) rr)(lo:lK X.K rr r)(ha:DE X a ta)(hb:DE X b tb)(hm:behindInMarks op b=false):DE X (.Compare a [op] [b] pos) (dOp r ta tb):=by
 obtain⟨t1,p1,l1⟩:=ha
 obtain⟨t2,p2,l2⟩:=hb
 exact⟨_,SU ho p1 p2 hm,Dv lo l1 l2⟩
noncomputable def dB(t:DTE):DTT:=fun ρ U Q=>t ρ U fun d ac=>match d with
 |.v (.bool k)=>Q k ac
 |_=>False
theorem Bk{K:PySem.W.Frag}{t:TE}{td:DTE}(l:AH K t td):R5 K (RD t) (dB td):=by
 intro Z H ρ U Qd Q S h k
 refine l Z H ρ U _ _ S h fun d u ac H1 e1 S1 r q=>?_
 split at q
 ·rename_i b
  cases r
  exact⟨b,rfl,k b ac H1 e1 S1 q⟩
 ·exact q.elim
theorem aZ{op:CmpOp}{rr:R2}{r}(ho:OpR X (compareOp op) rr)(lo:lK X.K rr r)(ha:DE X a ta)(hb:DE X b tb)(hm:behindInMarks op b=false):DT X (.Compare a [op] [b] pos) (dB (dOp r ta tb)):=by
 obtain⟨t1,p1,l1⟩:=ha
 obtain⟨t2,p2,l2⟩:=hb
 exact⟨_,TH ho p1 p2 hm,Bk (Dv lo l1 l2)⟩
theorem cO{e:Expr}{td:DTE}(h:DE X e td)(he:∀whole,isTrue e X.env whole=(do let v <- whole;standAt e.pos;holding [v] (truthy v)):=by intro _;rfl):DT X e (dB td):=by
 obtain⟨t,p,l⟩:=h
 exact⟨_,UP p he,Bk l⟩
def rII(C:Int->Int->Prop)(g:Int->Int->PyData):D->D->Mu->DK->Prop:=fun x y U Q=>match x,y with
 |.v (.int i),.v (.int j)=>C i j/\Q (.v (g i j)) U
 |_,_=>False
theorem Sj{K:PySem.W.Frag}{C:Int->Int->Prop}{g:Int->Int->V}{gd:Int->Int->PyData}(hg:∀U H i j,Rp K U H (gd i j) (g i j)):lK K (rI C g) (rII C gd):=by
 intro x y ux uy H U Qd Q ok rx ry h k
 unfold rII at h
 split at h
 ·rename_i i j
  cases rx;cases ry
  exact⟨i,j,rfl,rfl,h.1,k (.v _) _ U H .refl ok (hg U H i j) h.2⟩
 ·exact h.elim
def Gw(g:Int->Int->PyData):D->D->Mu->DK->Prop:=fun x y U Q=>match x,y with
 |.v (.int i),.v (.int j)=>Q (.v (g i j)) U
 |_,_=>False
theorem Ou{K:PySem.W.Frag}{g:Int->Int->V}{gd:Int->Int->PyData}(hg:∀U H i j,Rp K U H (gd i j) (g i j)):lK K (rI0 g) (Gw gd):=by
 intro x y ux uy H U Qd Q ok rx ry h k
 unfold Gw at h
 split at h
 ·rename_i i j
  cases rx;cases ry
  exact⟨i,j,rfl,rfl,k (.v _) _ U H .refl ok (hg U H i j) h⟩
 ·exact h.elim
noncomputable abbrev jB(ta tb:DTE):DTE:=dOp (Gw fun i j=>.int (i+j)) ta tb
noncomputable abbrev vz(ta tb:DTE):DTE:=dOp (Gw fun i j=>.int (i-j)) ta tb
noncomputable abbrev MulOk(i j:Int):Prop:=IntMulOk i j
noncomputable abbrev du(ta tb:DTE):DTE:=dOp (rII MulOk fun i j=>.int (i*j)) ta tb
noncomputable abbrev CU(ta tb:DTE):DTE:=dOp (rII (fun _ j=>j≠0) fun i j=>.int (i.fmod j)) ta tb
noncomputable abbrev CP(i j:Int):Prop:=j≠0/\Builtin.divisionGoesByPylong i j=false
noncomputable abbrev ER(ta tb:DTE):DTE:=dOp (rII CP fun i j=>.int (i.fdiv j)) ta tb
noncomputable abbrev M5(ta tb:DTE):DTE:=dOp (rII Wb fun i j=>.int (i ^ j.toNat)) ta tb
theorem Tu:OpR X (binaryOp .Mult) (rI MulOk fun i j=>.int (i*j)):=opI fun _ _ _ _ _ _ _ hc q=>mul_int q hc
theorem SQ:OpR X (binaryOp .FloorDiv) (rI CP fun i j=>.int (i.fdiv j)):=opI fun _ _ _ _ _ _ _ hc q=>floordiv_int hc.1 q (.inl hc.2)
theorem dg(ha:DE X a ta)(hb:DE X b tb):DE X (.BinOp a .Add b pos) (jB ta tb):=Cn Ri (Ou fun _ _ _ _=>.int _) ha hb
theorem hU(ha:DE X a ta)(hb:DE X b tb):DE X (.BinOp a .Sub b pos) (vz ta tb):=Cn VO (Ou fun _ _ _ _=>.int _) ha hb
theorem bH(ha:DE X a ta)(hb:DE X b tb):DE X (.BinOp a .Mult b pos) (du ta tb):=Cn Tu (Sj fun _ _ _ _=>.int _) ha hb
theorem qH(ha:DE X a ta)(hb:DE X b tb):DE X (.BinOp a .Mod b pos) (CU ta tb):=Cn Tf (Sj fun _ _ _ _=>.int _) ha hb
theorem rN(ha:DE X a ta)(hb:DE X b tb):DE X (.BinOp a .FloorDiv b pos) (ER ta tb):=Cn SQ (Sj fun _ _ _ _=>.int _) ha hb
theorem Cd(ha:DE X a ta)(hb:DE X b tb):DE X (.BinOp a .Pow b pos) (M5 ta tb):=Cn VJ (Sj fun _ _ _ _=>.int _) ha hb
abbrev rLt:=Gw fun i j=>.bool (decide (i<j))
abbrev rLe:=Gw fun i j=>.bool (decide (i<=j))
abbrev rGt:=Gw fun i j=>.bool (decide (j<i))
abbrev rGe:=Gw fun i j=>.bool (decide (j<=i))
theorem eT{K:PySem.W.Frag}{p:Int->Int->Bool}:lK K (rI0 fun i j=>.bl (p i j)) (Gw fun i j=>.bool (p i j)):=Ou fun _ _ _ _=>.bool _
noncomputable def Cc(ta:DTE):DTE:=fun ρ U Q=>ta ρ U fun x ac=>match x with
 |.v (.int i)=>Q (.v (.int (-i))) ac
 |_=>False
theorem pY(ha:DE X a ta):DE X (.UnaryOp .USub a pos) (Cc ta):=by
 obtain⟨t1,p1,l1⟩:=ha
 refine⟨_,Xq Wo p1,fun Z H ρ U Qd Q S h k=>?_⟩
 refine l1 Z H ρ U _ _ S h fun x ux ac H1 e1 S1 rx h1=>?_
 split at h1
 ·rename_i i
  cases rx
  exact⟨i,rfl,k (.v _) _ ac H1 e1 S1 (Rp.int _) h1⟩
 ·exact h1.elim
noncomputable def lL(t u:DTT):DTT:=fun ρ U Q=>t ρ U fun c ac=>if c=true then u ρ ac Q else Q false ac
noncomputable def qL(t u:DTT):DTT:=fun ρ U Q=>t ρ U fun c ac=>if c=true then Q true ac else u ρ ac Q
noncomputable def iQ(t:DTT):DTT:=fun ρ U Q=>t ρ U fun c ac=>Q (!c) ac
noncomputable def DW(X:Cx)(e:Expr)(td:DTT):Prop:=∃t,PW X e t/\R5 X.K t td
theorem DW.dt{e:Expr}{td:DTT}(h:DW X e td):DT X e td:=let ⟨t,p,l⟩:=h;⟨t,p.pt,l⟩
variable {tA tB':DTT}{rest:List Expr}
theorem iF(ha:DT X a tA):DW X (.BoolOp .And [a] pos) tA:=let ⟨t,p,l⟩:=ha;⟨t,pw_and1 p,l⟩
theorem lZ(ha:DT X a tA):DW X (.BoolOp .Or [a] pos) tA:=let ⟨t,p,l⟩:=ha;⟨t,pw_or1 p,l⟩
theorem jF(ha:DT X a tA)(hb:DW X (.BoolOp .And (b::rest) pos) tB'):DW X (.BoolOp .And (a::b::rest) pos) (lL tA tB'):=by
 obtain⟨t1,p1,l1⟩:=ha
 obtain⟨t2,p2,l2⟩:=hb
 refine⟨_,pw_and p1 p2,fun Z H ρ U Qd Q S h k=>?_⟩
 refine l1 Z H ρ U _ _ S h fun c ac H1 e1 S1 h1=>?_
 cases c with
 |true=>
  refine BX (l2 Z H1 ρ ac _ _ S1 (by simpa using h1) fun c ad H2 e2 S2 h2=>k c ad H2 (e1.trans e2) S2 h2)
 |false=>exact Df (k false ac H1 e1 S1 (by simpa using h1))
theorem kj(ha:DT X a tA)(hb:DW X (.BoolOp .Or (b::rest) pos) tB'):DW X (.BoolOp .Or (a::b::rest) pos) (qL tA tB'):=by
 obtain⟨t1,p1,l1⟩:=ha
 obtain⟨t2,p2,l2⟩:=hb
 refine⟨_,pw_or p1 p2,fun Z H ρ U Qd Q S h k=>?_⟩
 refine l1 Z H ρ U _ _ S h fun c ac H1 e1 S1 h1=>?_
 cases c with
 |true=>exact BX (k true ac H1 e1 S1 (by simpa using h1))
 |false=>
  refine Df (l2 Z H1 ρ ac _ _ S1 (by simpa using h1) fun c ad H2 e2 S2 h2=>k c ad H2 (e1.trans e2) S2 h2)
theorem fW(ha:DT X a tA):DT X (.UnaryOp .Not a pos) (iQ tA):=by
 obtain⟨t1,p1,l1⟩:=ha
 refine⟨_,VW p1,fun Z H ρ U Qd Q S h k=>?_⟩
 exact l1 Z H ρ U _ _ S h fun c ac H1 e1 S1 h1=>k _ ac H1 e1 S1 h1
noncomputable def lN(ta tb:DTE):DTE:=fun ρ U Q=>ta ρ U fun x ac=>match x with
 |.v (.bool c)=>if c=true then tb ρ ac Q else Q (.v (.bool false)) ac
 |_=>False
noncomputable def QD(ta:DTE):DTE:=fun ρ U Q=>ta ρ U fun x ac=>match x with
 |.v (.bool c)=>Q (.v (.bool (!c))) ac
 |_=>False
theorem oX{op}(h:DE X a ta):DE X (.BoolOp op [a] pos) ta:=let ⟨t,p,l⟩:=h;⟨t,Wq p,l⟩
theorem iY(ha:DE X a ta)(hb:DE X (.BoolOp .And (b::rest) pos) tb):DE X (.BoolOp .And (a::b::rest) pos) (lN ta tb):=by
 obtain⟨t1,p1,l1⟩:=ha
 obtain⟨t2,p2,l2⟩:=hb
 refine⟨_,Uv p1 p2,fun Z H ρ U Qd Q S h k=>?_⟩
 refine l1 Z H ρ U _ _ S h fun x ux ac H1 e1 S1 rx h1=>?_
 split at h1
 ·rename_i c
  cases rx
  refine⟨c,rfl,?_⟩
  cases c with
  |true=>exact BX (l2 Z H1 ρ ac _ _ S1 (by simpa using h1) fun d u ad H2 e2 S2 r2 h2=>k d u ad H2 (e1.trans e2) S2 r2 h2)
  |false=>exact Df (k (.v _) _ ac H1 e1 S1 (Rp.bool false) (by simpa using h1))
 ·exact h1.elim
theorem Qg(ha:DE X a ta):DE X (.UnaryOp .Not a pos) (QD ta):=by
 obtain⟨t1,p1,l1⟩:=ha
 refine⟨_,UB p1,fun Z H ρ U Qd Q S h k=>?_⟩
 refine l1 Z H ρ U _ _ S h fun x ux ac H1 e1 S1 rx h1=>?_
 split at h1
 ·rename_i c
  cases rx
  exact⟨c,rfl,k (.v _) _ ac H1 e1 S1 (Rp.bool _) h1⟩
 ·exact h1.elim
noncomputable def dIf(t:DTT)(ta tb:DTE):DTE:=fun ρ U Q=>t ρ U fun c ac=>if c=true then ta ρ ac Q else tb ρ ac Q
theorem E6{c:Expr}(hc:DT X c tA)(ha:DE X a ta)(hb:DE X b tb):DE X (.IfExp c a b pos) (dIf tA ta tb):=by
 obtain⟨t0,p0,l0⟩:=hc
 obtain⟨t1,p1,l1⟩:=ha
 obtain⟨t2,p2,l2⟩:=hb
 refine⟨_,QY p0 p1 p2,fun Z H ρ U Qd Q S h k=>?_⟩
 refine l0 Z H ρ U _ _ S h fun c ac H1 e1 S1 h1=>?_
 cases c with
 |true=>exact BX (l1 Z H1 ρ ac _ _ S1 (by simpa using h1) fun d u ad H2 e2 S2 r2 h2=>k d u ad H2 (e1.trans e2) S2 r2 h2)
 |false=>exact Df (l2 Z H1 ρ ac _ _ S1 (by simpa using h1) fun d u ad H2 e2 S2 r2 h2=>k d u ad H2 (e1.trans e2) S2 r2 h2)
end
section
variable {K:PySem.W.Frag}{U ac:Mu}{H H1:Hp}{p:Addr}
theorem dZ{o:HO}(h:H p=none):Ext K U H U (upd H p o):=
 ⟨fun b u e _ _=>by rw[cw (bN e h)];exact e,fun b ps e _=>⟨ps,by rw[cw (bN e h)];exact e⟩,fun _ ds q=>⟨ds,q⟩,fun _ q _=>q⟩
theorem dj.PD(ok:dj K U H)(e:Ext K U H U H1)(s:EV H H1):dj K U H1:=⟨fun a ds q=>by
 obtain⟨xs,h1,h2⟩:=ok a ds q
 exact⟨xs,s _ _ h1,h2.ext ok e⟩,ok.tab.of fun b o h _=>s b o h⟩
theorem Q3{o:HO}(h:H p=none):EV H (upd H p o):=fun b u q=>by rw[cw (bN q h)];exact q
theorem dj.new{o:HO}(ok:dj K U H)(h:H p=none):dj K U (upd H p o):=ok.PD (dZ h) (Q3 h)
theorem St0.new{o:HO}{ρ:Rho}{Z:St}(S:St0 K H ρ U Z)(h:H p=none):St0 K (upd H p o) ρ U Z:=⟨S.mu.new h,S.rho.ext S.mu (dZ h)⟩
theorem mx{us:List V}{ds:List PyData}(ok:dj K U H)(r:RpL K U H ds us)(h:H p=none):Rp K U (upd H p (.tup us)) (.tuple ds) (.ref p):=
 .tuple (SqT.of d9) (r.ext ok (dZ h))
theorem mK{us:List V}{ds:List PyData}(ok:dj K U H)(r:RpL K U H ds us)(h:H p=none):Rp K U (upd H p (.lst us)) (.list ds) (.ref p):=
 .list d9 (ok.free h) (r.ext ok (dZ h))
theorem nJ{o:HO}{ds:List PyData}(ok:dj K U H)(h:H p=none)(hk:K.lookup p=none):Ext K U H (aR U p ds) (upd H p o) where
 keep:=fun b u e _ _=>by rw[cw (bN e h)];exact e
 tb:=fun b ps e _=>⟨ps,by rw[cw (bN e h)];exact e⟩
 dom:=fun b es q=>by
  have:b≠p:=fun z=>by rw[z,ok.free h] at q;cases q
  exact⟨es,by rw[bR this];exact q⟩
 fresh:=fun b n q=>by
  have:b≠p:=fun z=>by
   rcases q with q|q
   ·exact q (by rw[z];exact h)
   ·exact q (by rw[z];exact hk)
  rw[bR this];exact n
theorem dj.mut{us:List V}{ds:List PyData}(ok:dj K U H)(r:RpL K U H ds us)(h:H p=none)(hk:K.lookup p=none):dj K (aR U p ds) (upd H p (.lst us)):=⟨fun a es q=>by
 have e:=nJ (o:=.lst us) (ds:=ds) ok h hk
 by_cases ha:a=p
 ·subst ha
  rw[bP] at q
  cases q
  exact⟨us,d9,r.ext ok e⟩
 ·rw[bR ha] at q
  obtain⟨xs,h1,h2⟩:=ok a es q
  exact⟨xs,by rw[cw ha];exact h1,h2.ext ok e⟩,ok.tab.of fun b o e _=>by rw[cw (bN e h)];exact e⟩
theorem pB{o:HO}{ds es:List PyData}(h:U p=some ds):Ext K U H (aR U p es) (upd H p o) where
 keep:=fun b u e n _=>by
  have:b≠p:=fun z=>by rw[z,h] at n;cases n
  rw[cw this];exact e
 tb:=fun b ps e n=>by
  have:b≠p:=fun z=>by rw[z,h] at n;cases n
  exact⟨ps,by rw[cw this];exact e⟩
 dom:=fun b fs q=>by
  by_cases hb:b=p
  ·subst hb;exact⟨es,bP⟩
  ·exact⟨fs,by rw[bR hb];exact q⟩
 fresh:=fun b n q=>by
  have:b≠p:=fun z=>by rw[z,h] at n;cases n
  rw[bR this];exact n
theorem dj.set{us:List V}{ds es:List PyData}(ok:dj K U H)(h:U p=some ds)(r:RpL K U H es us):dj K (aR U p es) (upd H p (.lst us)):=⟨fun a fs q=>by
 have e:Ext K U H (aR U p es) (upd H p (.lst us)):=pB h
 by_cases ha:a=p
 ·subst ha
  rw[bP] at q
  cases q
  exact⟨us,d9,r.ext ok e⟩
 ·rw[bR ha] at q
  obtain⟨xs,h1,h2⟩:=ok a fs q
  exact⟨xs,by rw[cw ha];exact h1,h2.ext ok e⟩,by
 obtain⟨ys,hy,_⟩:=ok p ds h
 exact ok.tab.of fun b o e n=>by
  have:b≠p:=fun z=>by rw[z,hy] at e;exact n ys (Option.some.inj e).symm
  rw[cw this];exact e⟩
end
def fh:List D->Option (List PyData)
 |[]=>some []
 |.v x::r=>(fh r).map (x::·)
 |_::_=>none
theorem n5.data{K:PySem.W.Frag}{U:Mu}{H:Hp}:∀{ds:List D} {us:List V} {xs:List PyData},n5 K U H ds us->fh ds=some xs->RpL K U H xs us
 |_,_,_,.nil,e=>by cases e;exact .nil
 |.v x::r,_,xs,.cons h t,e=>by
  simp only[fh] at e
  cases q:fh r with
  |none=>rw[q] at e;cases e
  |some ys=>rw[q] at e;cases e;exact .cons h (n5.data t q)
 |.m _::_,_,_,.cons _ _,e=>by simp[fh] at e
 |.s _::_,_,_,.cons _ _,e=>by simp[fh] at e
 |.o _::_,_,_,.cons _ _,e=>by simp[fh] at e
section
variable {X:Cx}{e:Expr}{es:List Expr}{te:DTE}{t:DTA}{pos:Pos}
noncomputable def ai:DTA:=fun _ U Q=>Q [] U
noncomputable def ae(ta:DTE)(tr:DTA):DTA:=fun ρ U Q=>ta ρ U fun x ac=>tr ρ ac fun xs ad=>Q (x::xs) ad
theorem af:DA X [] ai:=⟨_,we,fun Z H ρ U Qd Q S h k=>k [] [] U H .refl S .nil rfl h⟩
theorem aa(ha:DE X e te)(hr:DA X es t)(hs:starEach (e::es) X.env=(false,eval e X.env)::starEach es X.env:=by rfl):DA X (e::es) (ae te t):=by
 obtain⟨t1,p1,l1⟩:=ha
 obtain⟨t2,p2,l2⟩:=hr
 refine⟨_,kX p1 p2 hs,fun Z H ρ U Qd Q S h k=>?_⟩
 refine l1 Z H ρ U _ _ S h fun x ux ac H1 e1 S1 rx h1=>?_
 refine l2 Z H1 ρ ac _ _ S1 h1 fun xs us ad H2 e2 S2 rs len h2=>?_
 exact k (x::xs) (ux::us) ad H2 (e1.trans e2) S2 (.cons (rx.ext S1.mu e2) rs) (by rw[length_cons,length_cons,len]) h2
noncomputable def bj(t:DTA):DTE:=fun ρ U Q=>t ρ U fun ds ac=>match fh ds with
 |some xs=>Q (.v (.tuple xs)) ac
 |none=>False
noncomputable def ff(t:DTA):DTE:=fun ρ U Q=>t ρ U fun ds ac=>match fh ds with
 |some xs=>Q (.v (.list xs)) ac
 |none=>False
noncomputable def G8(t:DTA):DTE:=fun ρ U Q=>t ρ U fun ds ac=>match fh ds with
 |some xs=>∀p,ac p=none->Q (.m p) (aR ac p xs)
 |none=>False
theorem az{x1}(h:DA X es t)(hl:es.length<=1000:=by decide):DE X (.Tuple es x1 pos) (bj t):=by
 obtain⟨t1,p1,l1⟩:=h
 refine⟨_,Rv p1,fun Z H ρ U Qd Q S h k=>?_⟩
 refine l1 Z H ρ U _ _ S h fun ds us ac H1 e1 S1 rs len h1=>?_
 cases q:fh ds with
 |none=>rw[q] at h1;exact h1.elim
 |some xs=>
  rw[q] at h1
  refine⟨Nat.le_of_lt (gm (by rw[<- rs.length,len];exact hl)),fun p hp=>?_⟩
  exact k (.v (.tuple xs)) _ ac _ (e1.trans (dZ hp)) (S1.new hp) (mx S1.mu (rs.data q) hp) h1
theorem cf(h:DA X es t)(hl:es.length<=1000:=by decide):DE X (.List es pos) (ff t):=by
 obtain⟨t1,p1,l1⟩:=h
 refine⟨_,Qx p1,fun Z H ρ U Qd Q S h k=>?_⟩
 refine l1 Z H ρ U _ _ S h fun ds us ac H1 e1 S1 rs len h1=>?_
 cases q:fh ds with
 |none=>rw[q] at h1;exact h1.elim
 |some xs=>
  rw[q] at h1
  refine⟨Nat.le_of_lt (gm (by rw[<- rs.length,len];exact hl)),fun p hp=>?_⟩
  exact k (.v (.list xs)) _ ac _ (e1.trans (dZ hp)) (S1.new hp) (mK S1.mu (rs.data q) hp) h1
noncomputable def XC(K:PySem.W.Frag)(t:TA):TE:=fun Z H Q=>t Z H fun xs H1=>xs.length<=sizeLine/\∀p,H1 p=none->K.lookup p=none->Q (.ref p) (upd H1 p (.lst xs))
theorem SX{t:TA}(h:PA X es t):PE X (.List es pos) (XC X.K t):=by
 intro pins s Z H Q I hq
 refine wpAny_List_spliced (thn (h pos pins s Z H _ I hq) fun us s1 ⟨xs,H1,I1,r,z,q⟩=>⟨by rw[<- r.length];exact z,?_⟩)
 have hf:H1 s1.heap.objs.size=none:=I1.hok.fresh (le_refl _)
 have hk:X.K.lookup s1.heap.objs.size=none:=by
  cases c:X.K.lookup s1.heap.objs.size with
  |none=>rfl
  |some o=>exact absurd (Heap.lt_size (I1.kIn _ _ c)) (lt_irrefl _)
 refine⟨.ref s1.heap.objs.size,upd H1 s1.heap.objs.size (.lst xs),I1.laid (t':=s1.toks) (fun b u e=>Heap.get?_push_of_some _ e) (le_refl _) ?_,rfl,q _ hf hk⟩
 exact⟨z,us,0,r,Heap.get?_push_size _ rfl⟩
theorem DD(h:DA X es t)(hl:es.length<=1000:=by decide):DE X (.List es pos) (G8 t):=by
 obtain⟨t1,p1,l1⟩:=h
 refine⟨_,SX p1,fun Z H ρ U Qd Q S h k=>?_⟩
 refine l1 Z H ρ U _ _ S h fun ds us ac H1 e1 S1 rs len h1=>?_
 cases q:fh ds with
 |none=>rw[q] at h1;exact h1.elim
 |some xs=>
  rw[q] at h1
  refine⟨Nat.le_of_lt (gm (by rw[<- rs.length,len];exact hl)),fun p hp hk=>?_⟩
  have ex:=nJ (o:=.lst us) (ds:=xs) S1.mu hp hk
  exact k (.m p) _ (aR ac p xs) _ (e1.trans ex) ⟨S1.mu.mut (rs.data q) hp hk,S1.rho.ext S1.mu ex⟩ ⟨rfl,xs,bP⟩ (h1 p (S1.mu.free hp))
end
section
variable {X:Cx}{pins:List (Addr×Obj)}{Z:St}{H:Hp}{s:Shared}{U:Mu}
mutual
theorem lp(I:Inv X pins Z H s):∀{d:PyData} {x:V} {u:Value},Rp X.K U H d x->RelV x u->∃as,Reads s.heap u d as
 |_,_,_,.none,r=>by cases r;exact⟨_,.none⟩
 |_,_,_,.bool b,r=>by cases r;exact⟨_,.bool b⟩
 |_,_,_,.int i,r=>by obtain⟨t,rfl⟩:=r;exact⟨_,.int i t⟩
 |_,_,_,.str y,r=>by obtain⟨t,rfl⟩:=r;exact⟨_,.str y t⟩
 |_,_,_,.list h _ q,r=>by
  cases r
  obtain⟨its,rv,⟨o,n,ho,hc,_,hd⟩,_⟩:=I.list (SqL.of h)
  obtain⟨as,ra⟩:=vT I q rv
  exact⟨_,.list ho hc hd (by simpa using ra)⟩
 |_,_,_,.tuple h q,r=>by
  cases r
  obtain⟨its,rv,⟨o,ho,hc,n,hd⟩,_⟩:=I.tuple h
  obtain⟨as,ra⟩:=vT I q rv
  exact⟨_,.tuple ho hc hd (by simpa using ra)⟩
theorem vT(I:Inv X pins Z H s):∀{ds:List PyData} {xs:List V} {us:List Value},RpL X.K U H ds xs->Vals xs us->∃as,ReadsAll s.heap us ds as
 |_,_,_,.nil,.nil=>⟨_,.nil⟩
 |_,_,_,.cons h t,.cons r q=>by
  obtain⟨as,ra⟩:=lp I h r
  obtain⟨bs,rb⟩:=vT I t q
  exact⟨_,.cons ra rb⟩
end
end
section
variable {X:Cx}
noncomputable def V3(K:PySem.W.Frag)(neg:Bool):R2:=fun x y H Q=>∃U a b,Rp K U H a x/\Rp K U H b y/\SeqAt.shaped a=true/\SeqAt.shaped b=true/\Q (.bl (neg ^^ PyData.eqv a b)) H
theorem bU(hu:X.A.units+64<cLine):OpR X (compareOp .Eq) (V3 X.K false):=by
 intro pins s Z H x y v u Q I rx ry h
 obtain⟨U,a,b,ha,hb,sa,sb,q⟩:=h
 obtain⟨as,ra⟩:=lp I ha rx
 obtain⟨bs,rb⟩:=lp I hb ry
 exact eq_dataH ra rb sa sb hu ⟨.bl (PyData.eqv a b),H,I,rfl,by simpa using q⟩
theorem yc(hu:X.A.units+64<cLine):OpR X (compareOp .NotEq) (V3 X.K true):=by
 intro pins s Z H x y v u Q I rx ry h
 obtain⟨U,a,b,ha,hb,sa,sb,q⟩:=h
 obtain⟨as,ra⟩:=lp I ha rx
 obtain⟨bs,rb⟩:=lp I hb ry
 exact ne_dataH ra rb sa sb hu ⟨.bl (!PyData.eqv a b),H,I,rfl,by simpa using q⟩
def cW(neg:Bool):D->D->Mu->DK->Prop:=fun x y U Q=>match x,y with
 |.v a,.v b=>SeqAt.shaped a=true/\SeqAt.shaped b=true/\Q (.v (.bool (neg ^^ PyData.eqv a b))) U
 |_,_=>False
theorem bI{K:PySem.W.Frag}{neg:Bool}:lK K (V3 K neg) (cW neg):=by
 intro x y ux uy H U Qd Q ok rx ry h k
 unfold cW at h
 split at h
 ·rename_i a b
  exact⟨U,a,b,rx,ry,h.1,h.2.1,k (.v _) _ U H .refl ok (Rp.bool _) h.2.2⟩
 ·exact h.elim
noncomputable def Vc(K:PySem.W.Frag)(neg:Bool):R2:=fun x y H Q=>∃U a bs,Rp K U H a x/\Rp K U H (.list bs) y/\PyData.canLayAll0 bs=true/\a.canLay0=true/\PyData.depth a<=60/\Q (.bl (neg ^^ bs.any fun b=>PyData.eqv b a)) H
theorem PV(hu:X.A.units+64<cLine):OpR X (compareOp .In) (Vc X.K false):=by
 intro pins s Z H x y v u Q I rx ry h
 obtain⟨U,a,b,ha,hb,sb,sa,dp,q⟩:=h
 obtain⟨as,ra⟩:=lp I ha rx
 obtain⟨bs,rb⟩:=lp I hb ry
 refine SeqAt.in_list_reads rb ra sb sa ∅ ⟨.bl (b.any fun z=>PyData.eqv z a),H,I,rfl,by simpa using q⟩
theorem Ph(hu:X.A.units+64<cLine):OpR X (compareOp .NotIn) (Vc X.K true):=by
 intro pins s Z H x y v u Q I rx ry h
 obtain⟨U,a,b,ha,hb,sb,sa,dp,q⟩:=h
 obtain⟨as,ra⟩:=lp I ha rx
 obtain⟨bs,rb⟩:=lp I hb ry
 refine SeqAt.notIn_list_reads rb ra sb sa ∅ ⟨.bl (!b.any fun z=>PyData.eqv z a),H,I,rfl,by simpa using q⟩
def OZ(neg:Bool):D->D->Mu->DK->Prop:=fun x y U Q=>match x,y with
 |.v a,.v (.list bs)=>PyData.canLayAll0 bs=true/\a.canLay0=true/\PyData.depth a<=60/\Q (.v (.bool (neg ^^ bs.any fun b=>PyData.eqv b a))) U
 |_,_=>False
theorem Nk{K:PySem.W.Frag}{neg:Bool}:lK K (Vc K neg) (OZ neg):=by
 intro x y ux uy H U Qd Q ok rx ry h k
 unfold OZ at h
 split at h
 ·rename_i a b
  exact⟨U,a,b,rx,ry,h.1,h.2.1,h.2.2.1,k (.v _) _ U H .refl ok (Rp.bool _) h.2.2.2⟩
 ·exact h.elim
end
section
variable {X:Cx}{a b e:Expr}{es:List Expr}{ta tb te:DTE}{t:DTA}{p pos:Pos}
def aI:D->D->Mu->DK->Prop:=fun x y U Q=>match x,y with
 |.v (.list xs),.v (.int i)=>(match atI xs i with|some d=>Q (.v d) U|none=>False)
 |.v (.tuple xs),.v (.int i)=>(match atI xs i with|some d=>Q (.v d) U|none=>False)
 |.m l,.v (.int i)=>(match U l with
  |some xs=>(match atI xs i with|some d=>Q (.v d) U|none=>False)
  |none=>False)
 |.s ns,.v (.int i)=>(match atI ns i with|some d=>Q (.v (.int d)) U|none=>False)
 |_,_=>False
theorem Xr{K:PySem.W.Frag}:lK K (rIx K) aI:=by
 intro x y ux uy H U Qd Q ok rx ry h k
 unfold aI at h
 split at h
 ·rename_i xs i
  cases ry
  cases q:atI xs i with
  |none=>rw[q] at h;exact h.elim
  |some d=>
   rw[q] at h
   cases rx with
   |list hs hn r=>
    obtain⟨u,e1,e2⟩:=Nt r q
    exact .inl ⟨_,_,i,u,rfl,rfl,SqL.of hs,e1,k (.v d) u U H .refl ok e2 h⟩
 ·rename_i xs i
  cases ry
  cases q:atI xs i with
  |none=>rw[q] at h;exact h.elim
  |some d=>
   rw[q] at h
   cases rx with
   |tuple hs r=>
    obtain⟨u,e1,e2⟩:=Nt r q
    exact .inr (.inl ⟨_,_,i,u,rfl,rfl,hs,e1,k (.v d) u U H .refl ok e2 h⟩)
 ·rename_i l i
  cases ry
  obtain⟨rfl,ds,hm⟩:=rx
  rw[hm] at h
  simp only at h
  cases q:atI ds i with
  |none=>rw[q] at h;exact h.elim
  |some d=>
   rw[q] at h
   obtain⟨us,hl,r⟩:=ok l ds hm
   obtain⟨u,e1,e2⟩:=Nt r q
   exact .inl ⟨_,_,i,u,rfl,rfl,SqL.of hl,e1,k (.v d) u U H .refl ok e2 h⟩
 ·rename_i ns i
  cases ry
  obtain⟨a,rfl,hs,hn⟩:=rx
  cases q:atI ns i with
  |none=>rw[q] at h;exact h.elim
  |some d=>
   rw[q] at h
   have e1:atI (ns.map V.int) i=some (.int d):=by
    unfold atI at q ⊢
    rw[length_map]
    cases z:ixN ns.length i with
    |none=>rw[z] at q;cases q
    |some j=>
     rw[z] at q
     simp only[bind_some,getElem?_map] at q ⊢
     rw[q]<;>rfl
   exact .inl ⟨_,_,i,_,rfl,rfl,hs,e1,k (.v (.int d)) _ U H .refl ok (Rp.int d) h⟩
 ·exact h.elim
theorem aA(ha:DE X a ta)(hb:DE X b tb)(hs:Ot b:=by exact fun _ _=>rfl):DE X (.Subscript a b pos) (dOp aI ta tb):=by
 obtain⟨t1,p1,l1⟩:=ha
 obtain⟨t2,p2,l2⟩:=hb
 exact⟨_,Ws HW p1 p2 hs,Dv Xr l1 l2⟩
theorem QN{prog:Program}{w:World}{A:Around}{E:Value->Shared->Prop}{s:Shared}{t b:Addr}{ws:List Value}{Q:Value->Shared->Prop}(ht:IsTup s.heap t #[])(hb:IsTup s.heap b ws.toArray)
  (h1:Q (.ref b) s):wpAny (model prog w) A (binaryOp .Add (.ref t) (.ref b)) Q E s:=by
 obtain⟨⟨cls,dd,data,sl⟩,ho,hc,n,hd⟩:=id ht
 obtain⟨⟨cls2,dd2,data2,sl2⟩,ho2,hc2,n2,hd2⟩:=id hb
 simp only at hc hd hc2 hd2
 subst hc hd hc2 hd2
 exact concat_meets ⟨_,ho,rfl⟩ ⟨_,ho2,rfl⟩ noFill_tuple_add seq_tuple_add PySem.F.slot_tuple_add PySem.F.entry_tuple_add (PySem.F.args_tuple_add_2 _ _)
  (tuple_addW0 t b #[] ws.toArray n n2 dd dd2 sl sl2 rfl) ⟨ho,ho2,h1⟩
def Av(U:Mu):D->Option (List PyData)
 |.v (.list xs)=>some xs
 |.m l=>U l
 |_=>none
theorem Lu{K:PySem.W.Frag}{U:Mu}{H:Hp}{x:D}{u:V}{xs:List PyData}(ok:dj K U H)(r:RpD K U H x u)(h:Av U x=some xs):∃a us,u = .ref a/\H a=some (.lst us)/\RpL K U H xs us:=by
 cases x with
 |v d=>
  cases d<;>simp only[Av] at h<;>try cases h
  cases r with
  |list hs _ q=>exact⟨_,_,rfl,hs,q⟩
 |m l=>
  obtain⟨rfl,ds,hm⟩:=r
  obtain⟨us,hl,q⟩:=ok l xs h
  exact⟨l,us,rfl,hl,q⟩
 |s ns=>cases h
 |o a=>cases h
 |q P=>cases h
def N1:D->D->Mu->DK->Prop:=fun x y U Q=>match Av U x,Av U y with
 |some xs,some ys=>xs.length+ys.length<=1000/\Q (.v (.list (xs++ys))) U
 |_,_=>False
theorem Oz{n:Nat}(h:n<=1000):n<=sizeLine:=Nat.le_of_lt (gm h)
theorem Vs{K:PySem.W.Frag}:lK K Vp N1:=by
 intro x y ux uy H U Qd Q ok rx ry h k
 unfold N1 at h
 split at h
 ·rename_i xs ys hx hy
  obtain⟨a,us,rfl,ha,ra⟩:=Lu ok rx hx
  obtain⟨b,ws,rfl,hb,rb⟩:=Lu ok ry hy
  refine⟨a,b,us,ws,rfl,rfl,ha,hb,Oz (by rw[<- ra.length,<- rb.length];exact h.1),fun p hp=>?_⟩
  exact k (.v _) _ U _ (dZ hp) (ok.new hp) (mK ok (ra.append rb) hp) h.2
 ·exact h.elim
noncomputable def M4(K:PySem.W.Frag):R2:=fun x y H Q=>∃a b xs ys,x = .ref a/\y = .ref b/\SqT K H a xs/\SqT K H b ys/\xs.length+ys.length<=sizeLine /\
 (xs=[]->Q (.ref b) H)/\(ys=[]->Q (.ref a) H)/\(∀p,H p=none->Q (.ref p) (upd H p (.tup (xs++ys))))
theorem RB:OpR X (binaryOp .Add) (M4 X.K):=by
 intro pins s Z H x y v u Q I rx ry h
 obtain⟨a,b,xs,ys,rfl,rfl,ha,hb,hz,q0,q1,q2⟩:=h
 by_cases hx:xs=[]
 ·subst hx
  cases rx
  cases ry
  obtain⟨its,r1,p1,_⟩:=I.tuple ha
  obtain⟨its2,r2,p2,_⟩:=I.tuple hb
  cases r1
  exact QN p1 p2 ⟨.ref b,H,I,rfl,q0 rfl⟩
 ·exact SV pins s Z H _ _ v u Q I rx ry ⟨a,b,xs,ys,rfl,rfl,ha,hb,hx,hz,q1,fun _=>q2⟩
def R6:D->D->Mu->DK->Prop:=fun x y U Q=>match x,y with
 |.v (.tuple xs),.v (.tuple ys)=>xs.length+ys.length<=1000/\Q (.v (.tuple (xs++ys))) U
 |_,_=>False
theorem Sm{K:PySem.W.Frag}:lK K (M4 K) R6:=by
 intro x y ux uy H U Qd Q ok rx ry h k
 unfold R6 at h
 split at h
 ·rename_i xs ys
  cases id rx with
  |@tuple a us _ ha ra=>
   cases id ry with
   |@tuple b ws _ hb rb=>
    refine⟨a,b,us,ws,rfl,rfl,ha,hb,Oz (by rw[<- ra.length,<- rb.length];exact h.1),fun z=>?_,fun z=>?_,fun p hp=>?_⟩
    ·subst z
     cases ra
     exact k (.v _) _ U H .refl ok ry (by simpa using h.2)
    ·subst z
     cases rb
     exact k (.v _) _ U H .refl ok rx (by simpa using h.2)
    ·exact k (.v _) _ U _ (dZ hp) (ok.new hp) (mx ok (ra.append rb) hp) h.2
 ·exact h.elim
end
end L2.DL
namespace HT
open PySem PyProof.Rows
section
variable {prog:Program}{w:World}{A:Around}{E:Value->Shared->Prop}{s:Shared}
theorem zO{t sl:Addr}{items:Array Value}{vl vu:Value}{lo hi:Option Int}{Q:Value->Shared->Prop}(ht:IsTup s.heap t items)(hs:s.heap.IsSliceOf sl vl vu .none)(pl:IsPart vl lo)(pu:IsPart vu hi)
  (hw:sIx items.size 0 lo=0/\sIx items.size items.size hi=items.size) (h:Q (.ref t) s):wpAny (model prog w) A (getItem (.ref t) (.ref sl)) Q E s:=by
 obtain⟨os,hos,hcs,hds⟩:=id hs
 have hTs:s.TypeIs (.ref sl) "slice":=⟨os,hos,hcs⟩
 unfold getItem
 try with_reducible refine wpAny_holding ?_
 first|refine wpAny_bind (wpAny_pure ?_)|skip
 refine wpAny_bind (wpAny_sequenceKey ht.typeIs ⋯ ?_)
 refine wpAny_bind (wpAny_callSpecial?_slot (name:=Str.ofString "__getitem__") ht.typeIs PyProof.Rows.slot_tuple_getitem
  (wpAny_call_entry PyProof.Rows.slot_tuple_getitem ht.typeIs entry_tuple_getitem ?_ (args_tuple_getitem _ _)))
 show wpAny _ _ (Builtin.Tuple.tupleItemsOf (.ref t)>>=_) _ _ s
 refine wpAny_bind (tupleItemsOf_ ht ?_)
 refine wpAny_bind (wpAny_typeOf hTs ?_)
 rw[if_pos ⋯]
 refine wpAny_bind (tQ hs pl pu ?_)
 have hno:((((sIx items.size 0 lo:Nat):Int)==0&&(1:Int)==1&&(sIx items.size items.size hi-sIx items.size 0 lo)==items.size)=true):=by
  rw[hw.1,hw.2]
  simp
 show wpAny _ _ (if (((sIx items.size 0 lo:Nat):Int)==0&&(1:Int)==1&&(sIx items.size items.size hi-sIx items.size 0 lo)==items.size)=true then _ else _) _ _ s
 rw[if_pos hno]
 refine wpAny_bind ?_
 unfold Builtin.Tuple.tupleIsExact
 refine wpAny_bind (wpAny_typeOf ht.typeIs (wpAny_pure ?_))
 rw[if_pos ⋯]
 refine wpAny_bind (wpAny_rule ?_)
 exact wpAny_pure ⟨_,rfl,wpAny_pure h⟩
end
end HT
namespace L2.DL
open PySem PySem.Spec PyProof.Rows
section
variable {X:Cx}{a b e:Expr}{lo hi:Option Expr}{ta tb te:DTE}{pos p2:Pos}
def oR{α:Type}(xs:List α)(lo hi:Option Int):List α:=(xs.drop (HT.sIx xs.length 0 lo)).take (HT.sIx xs.length xs.length hi-HT.sIx xs.length 0 lo)
theorem RpL.cut{K:PySem.W.Frag}{U:Mu}{H:Hp}{ds:List PyData}{us:List V}{lo hi:Option Int}(r:RpL K U H ds us):RpL K U H (oR ds lo hi) (HB us lo hi):=by
 unfold oR HB
 rw[r.length]
 exact (r.drop _).take _
theorem Tp{α:Type}{xs:List α}{lo hi:Option Int}(h:HT.sIx xs.length 0 lo=0/\HT.sIx xs.length xs.length hi=xs.length):oR xs lo hi=xs:=by
 unfold oR
 rw[h.1,h.2]
 simp
def WU(K:PySem.W.Frag):V->Option Int->Option Int->Hp->VK->Prop:=fun x lo hi H Q=>∃a xs,x = .ref a/\SqT K H a xs /\
 (HT.sIx xs.length 0 lo=0/\HT.sIx xs.length xs.length hi=xs.length->Q (.ref a) H)/\∀p,H p=none->Q (.ref p) (upd H p (.tup (HB xs lo hi)))
theorem Sw:SlR X (WU X.K):=by
 intro pins s Z H x v vl vu lo hi sl Q I rx hs pl pu h
 obtain⟨a,xs,rfl,hx,q1,q⟩:=h
 by_cases hw:HT.sIx xs.length 0 lo=0/\HT.sIx xs.length xs.length hi=xs.length
 ·cases rx
  obtain⟨its,r,ht,hz⟩:=I.tuple hx
  have hlen:its.toArray.size=xs.length:=by rw[size_toArray];exact r.length.symm
  refine⟨"tuple",_,PyProof.Rows.slot_tuple_getitem.lookup,ht.typeIs,?_⟩
  exact HT.zO ht hs pl pu (by rw[hlen];exact hw) ⟨.ref a,H,I,rfl,q1 hw⟩
 ·exact U9 pins s Z H _ v vl vu lo hi sl Q I rx hs pl pu ⟨a,xs,rfl,hx,hw,q⟩
abbrev DTO:=Rho->Mu->(Option Int->Mu->Prop)->Prop
noncomputable def W9(K:PySem.W.Frag)(t:TO)(td:DTO):Prop:=∀(Z:St) (H:Hp) (ρ:Rho) (U:Mu) (Qd:Option Int->Mu->Prop) (Q:Option Int->Hp->Prop),St0 K H ρ U Z->td ρ U Qd ->
 (∀o Y H',Ext K U H Y H'->St0 K H' ρ Y Z->Qd o Y->Q o H')->t Z H Q
noncomputable def DO(X:Cx)(e:Option Expr)(td:DTO):Prop:=∃t,PO X e t/\W9 X.K t td
noncomputable def lu:DTO:=fun _ U Q=>Q none U
noncomputable def tL(t:DTE):DTO:=fun ρ U Q=>t ρ U fun x ac=>match x with
 |.v (.int i)=>Q (some i) ac
 |_=>False
theorem pH:DO X none lu:=⟨_,Sr,fun Z H ρ U Qd Q S h k=>k none U H .refl S h⟩
theorem kK(h:DE X e te):DO X (some e) (tL te):=by
 obtain⟨t1,p1,l1⟩:=h
 refine⟨_,SN p1,fun Z H ρ U Qd Q S h k=>?_⟩
 refine l1 Z H ρ U _ _ S h fun x ux ac H1 e1 S1 rx h1=>?_
 split at h1
 ·cases rx
  exact⟨_,rfl,k _ ac H1 e1 S1 h1⟩
 ·exact h1.elim
noncomputable def To(x:D)(lo hi:Option Int)(U:Mu)(Q:DK):Prop:=match x with
 |.v (.tuple xs)=>Q (.v (.tuple (oR xs lo hi))) U
 |.v (.list xs)=>Q (.v (.list (oR xs lo hi))) U
 |.m l=>(match U l with|some xs=>Q (.v (.list (oR xs lo hi))) U|none=>False)
 |_=>False
noncomputable def dSl(te:DTE)(tl th:DTO):DTE:=fun ρ U Q=>te ρ U fun x ac=>tl ρ ac fun l ad=>th ρ ad fun u ap=>To x l u ap Q
theorem i9{tl th:DTO}(he:DE X e te)(hl:DO X lo tl)(hu:DO X hi th):DE X (.Subscript e (.Slice lo hi none p2) pos) (dSl te tl th):=by
 obtain⟨t1,p1,l1⟩:=he
 obtain⟨t2,p2,l2⟩:=hl
 obtain⟨t3,p3,l3⟩:=hu
 refine⟨_,Qu (Sn.or Sw) p1 p2 p3,fun Z H ρ U Qd Q S h k=>?_⟩
 refine l1 Z H ρ U _ _ S h fun x ux ac H1 e1 S1 rx h1=>?_
 refine l2 Z H1 ρ ac _ _ S1 h1 fun l ad H2 e2 S2 h2=>?_
 refine l3 Z H2 ρ ad _ _ S2 h2 fun u ap H3 e3 S3 h3=>?_
 have rx3:=(rx.ext S1.mu e2).ext S2.mu e3
 have ee:=e1.trans (e2.trans e3)
 unfold To at h3
 split at h3
 ·rename_i xs
  cases id rx3 with
  |@tuple a us _ ha ra=>
   refine .inr ⟨a,us,rfl,ha,fun hw=>?_,fun p hp=>?_⟩
   ·refine k (.v _) _ ap H3 ee S3 (show Rp _ _ _ (.tuple (oR xs l u)) _ from ?_) h3
    rw[Tp (by rw[ra.length];exact hw)]
    exact rx3
   ·exact k (.v _) _ ap _ (ee.trans (dZ hp)) (S3.new hp) (mx S3.mu ra.cut hp) h3
 ·rename_i xs
  cases id rx3 with
  |@list a us _ ha hn ra=>exact .inl ⟨a,us,rfl,SqL.of ha,fun p hp=>k (.v _) _ ap _ (ee.trans (dZ hp)) (S3.new hp) (mK S3.mu ra.cut hp) h3⟩
 ·rename_i a
  obtain⟨rfl,ds,hm⟩:=rx3
  rw[hm] at h3
  obtain⟨us,ha,ra⟩:=S3.mu a ds hm
  exact .inl ⟨a,us,rfl,SqL.of ha,fun p hp=>k (.v _) _ ap _ (ee.trans (dZ hp)) (S3.new hp) (mK S3.mu ra.cut hp) h3⟩
 ·exact h3.elim
end
section
variable {X:Cx}{a b e:Expr}{es:List Expr}{ta tb te:DTE}{t:DTA}{p pos:Pos}{x:Str}{bid T:String}
noncomputable def si(K:PySem.W.Frag)(r:List V->Hp->VK->Prop)(rd:List D->Mu->DK->Prop):Prop:=∀(xs:List D) (us:List V) (H:Hp) (U:Mu) (Qd:DK) (Q:VK),dj K U H->n5 K U H xs us->rd xs U Qd ->
 (∀d u Y H',Ext K U H Y H'->dj K Y H'->RpD K Y H' d u->Qd d Y->Q u H')->r us H Q
noncomputable def dCB(rd:List D->Mu->DK->Prop)(t:DTA):DTE:=fun ρ U Q=>t ρ U fun ds ac=>rd ds ac Q
theorem Ow{K:PySem.W.Frag}{n:Nat}{r:List V->Hp->VK->Prop}{rd:List D->Mu->DK->Prop}{t1:TA}(lc:si K r rd)(l1:Ub K n t1 t):AH K (tCB r t1) (dCB rd t):=by
 intro Z H ρ U Qd Q S h k
 refine l1 Z H ρ U _ _ S h fun xs us ac H1 e1 S1 rs len h1=>?_
 exact lc xs us H1 ac _ _ S1.mu rs h1 fun d u Y H' e2 ok r q=>k d u Y H' (e1.trans e2) ⟨ok,S1.rho.ext S1.mu e2⟩ r q
theorem n6{r:List V->Hp->VK->Prop}{rd:List D->Mu->DK->Prop}(hc:n8 X (.builtin bid) r)(lc:si X.K r rd)(hg:Gl X x)(hm:X.mg x=none)(hv:bootBuiltins x=some (.builtin bid))(ha:DA X (e::es) t)(hn:x ≠ "__name__":=by decide)(hdb:(x==("__debug__":Str))=false:=by decide)
  (he:starEach (e::es) X.env=(false,eval e X.env)::starEach es X.env:=by rfl) (hpl:(backTo pos (starEach es X.env)).any (·.1)=false:=by rfl):DE X (.Call (.Name x p) (e::es) [] pos) (dCB rd t):=by
 obtain⟨t1,p1,l1⟩:=ha
 exact⟨_,zL hc hg hm hv p1 hn hdb he hpl,Ow lc l1⟩
theorem A1{r:List V->Hp->VK->Prop}{rd:List D->Mu->DK->Prop}(hc:n8 X (.type T) r)(lc:si X.K r rd)(hg:Gl X x)(hm:X.mg x=none)(hv:bootBuiltins x=some (.type T))(ha:DA X (e::es) t)(hn:x ≠ "__name__":=by decide)(hdb:(x==("__debug__":Str))=false:=by decide)
  (he:starEach (e::es) X.env=(false,eval e X.env)::starEach es X.env:=by rfl) (hpl:(backTo pos (starEach es X.env)).any (·.1)=false:=by rfl):DE X (.Call (.Name x p) (e::es) [] pos) (dCB rd t):=by
 obtain⟨t1,p1,l1⟩:=ha
 exact⟨_,OJ hc hg hm hv p1 hn hdb he hpl,Ow lc l1⟩
def cI:List D->Mu->DK->Prop:=fun xs U Q=>match xs with
 |[.v (.list ys)]=>Q (.v (.int (ys.length:Nat))) U
 |[.v (.tuple ys)]=>Q (.v (.int (ys.length:Nat))) U
 |[.m l]=>(match U l with|some ys=>Q (.v (.int (ys.length:Nat))) U|none=>False)
 |[.s ns]=>Q (.v (.int (ns.length:Nat))) U
 |_=>False
theorem V0{K:PySem.W.Frag}:si K (fun xs H Q=>∃p ys,xs=[.ref p]/\(SqL K H p ys\/SqT K H p ys)/\Q (.int ys.length) H) cI:=by
 intro xs us H U Qd Q ok rs h k
 unfold cI at h
 split at h
 ·cases rs with
  |cons r1 r2=>
   cases r2
   cases r1 with
   |list hs hn r=>exact⟨_,_,rfl,.inl (SqL.of hs),k (.v _) _ U H .refl ok (by rw[<- r.length];exact Rp.int _) h⟩
 ·cases rs with
  |cons r1 r2=>
   cases r2
   cases r1 with
   |tuple hs r=>exact⟨_,_,rfl,.inr hs,k (.v _) _ U H .refl ok (by rw[<- r.length];exact Rp.int _) h⟩
 ·cases rs with
  |cons r1 r2=>
   cases r2
   obtain⟨rfl,ds,hm⟩:=r1
   rw[hm] at h
   obtain⟨us,hl,r⟩:=ok _ ds hm
   exact⟨_,_,rfl,.inl (SqL.of hl),k (.v _) _ U H .refl ok (by rw[<- r.length];exact Rp.int _) h⟩
 ·cases rs with
  |cons r1 r2=>
   cases r2
   obtain⟨a,rfl,hs,hn⟩:=r1
   exact⟨_,_,rfl,.inl hs,k (.v _) _ U H .refl ok (by rw[length_map];exact Rp.int _) h⟩
 ·exact h.elim
theorem cH(hg:Gl X "len")(hm:X.mg "len"=none)(ha:DA X (e::es) t)
  (he:starEach (e::es) X.env=(false,eval e X.env)::starEach es X.env:=by rfl) (hpl:(backTo pos (starEach es X.env)).any (·.1)=false:=by rfl):DE X (.Call (.Name "len" p) (e::es) [] pos) (dCB cI t):=
 n6 IJ V0 hg hm PySem.boot_len ha ⋯ ⋯ he hpl
def AK:List D->Mu->DK->Prop:=fun xs U Q=>match xs with
 |[.v (.int i)]=>Q (.v (.int (i.natAbs:Nat))) U
 |_=>False
theorem UG{K:PySem.W.Frag}:si K (fun xs H Q=>∃i,xs=[.int i]/\Q (.int (if i<0 then -i else i)) H) AK:=by
 intro xs us H U Qd Q ok rs h k
 unfold AK at h
 split at h
 ·rename_i i
  cases rs with
  |cons r1 r2=>
   cases r2
   cases r1
   refine⟨i,rfl,k (.v (.int (i.natAbs:Nat))) _ U H .refl ok ?_ h⟩
   have:(if i<0 then -i else i)=((i.natAbs:Nat):Int):=by split<;>omega
   rw[this]
   exact Rp.int _
 ·exact h.elim
theorem Et(hg:Gl X "abs")(hm:X.mg "abs"=none)(ha:DA X (e::es) t)
  (he:starEach (e::es) X.env=(false,eval e X.env)::starEach es X.env:=by rfl) (hpl:(backTo pos (starEach es X.env)).any (·.1)=false:=by rfl):DE X (.Call (.Name "abs" p) (e::es) [] pos) (dCB AK t):=
 n6 PU UG hg hm PyProof.Rows.Boot.«abs» ha ⋯ ⋯ he hpl
def K9(g:Int->Int->Int):List D->Mu->DK->Prop:=fun xs U Q=>match xs with
 |[.v (.int i),.v (.int j)]=>Q (.v (.int (g i j))) U
 |_=>False
theorem T8{K:PySem.W.Frag}{g g':Int->Int->Int}(hg:∀i j,g i j=g' i j):si K (fun xs H Q=>∃i j,xs=[.int i,.int j]/\Q (.int (g i j)) H) (K9 g'):=by
 intro xs us H U Qd Q ok rs h k
 unfold K9 at h
 split at h
 ·rename_i i j
  cases rs with
  |cons r1 r2=>
   cases r2 with
   |cons r2 r3=>
    cases r3
    cases r1
    cases r2
    exact⟨i,j,rfl,k (.v _) _ U H .refl ok (by rw[hg];exact Rp.int _) h⟩
 ·exact h.elim
theorem US(hc:X.calm=true)(hg:Gl X "max")(hm:X.mg "max"=none)(ha:DA X (e::es) t)
  (he:starEach (e::es) X.env=(false,eval e X.env)::starEach es X.env:=by rfl) (hpl:(backTo pos (starEach es X.env)).any (·.1)=false:=by rfl):DE X (.Call (.Name "max" p) (e::es) [] pos) (dCB (K9 max) t):=
 n6 (O7 hc) (T8 (fun i j=>by show (if j>i then j else i)=max i j;simp only[Int.max_def];split<;>split<;>omega)) hg hm PyProof.Rows.Boot.«max» ha ⋯ ⋯ he hpl
theorem Qt(hc:X.calm=true)(hg:Gl X "min")(hm:X.mg "min"=none)(ha:DA X (e::es) t)
  (he:starEach (e::es) X.env=(false,eval e X.env)::starEach es X.env:=by rfl) (hpl:(backTo pos (starEach es X.env)).any (·.1)=false:=by rfl):DE X (.Call (.Name "min" p) (e::es) [] pos) (dCB (K9 min) t):=
 n6 (Pe hc) (T8 (fun i j=>by show (if j<i then j else i)=min i j;simp only[Int.min_def];split<;>split<;>omega)) hg hm PyProof.Rows.Boot.«min» ha ⋯ ⋯ he hpl
def vk:List D->Mu->DK->Prop:=fun xs U Q=>match xs with
 |[.v (.int i)]=>Q (.v (.int i)) U
 |[.v (.bool k)]=>Q (.v (.int (if k then 1 else 0))) U
 |_=>False
theorem Uw{K:PySem.W.Frag}:si K (fun xs H Q=>(∃i,xs=[.int i]/\Q (.int i) H)\/∃k,xs=[.bl k]/\Q (.int (if k then 1 else 0)) H) vk:=by
 intro xs us H U Qd Q ok rs h k
 unfold vk at h
 split at h
 ·rename_i i
  cases rs with
  |cons r1 r2=>cases r2;cases r1;exact .inl ⟨i,rfl,k (.v _) _ U H .refl ok (Rp.int _) h⟩
 ·rename_i b
  cases rs with
  |cons r1 r2=>cases r2;cases r1;exact .inr ⟨b,rfl,k (.v _) _ U H .refl ok (Rp.int _) h⟩
 ·exact h.elim
theorem nW(hg:Gl X "int")(hm:X.mg "int"=none)(ha:DA X (e::es) t)
  (he:starEach (e::es) X.env=(false,eval e X.env)::starEach es X.env:=by rfl) (hpl:(backTo pos (starEach es X.env)).any (·.1)=false:=by rfl):DE X (.Call (.Name "int" p) (e::es) [] pos) (dCB vk t):=
 A1 OY Uw hg hm PyProof.Rows.Boot.«int» ha ⋯ ⋯ he hpl
def oV:List D->Mu->DK->Prop:=fun xs U Q=>match xs with
 |[.v (.list ys)]=>Q (.v (.list ys)) U
 |[.v (.tuple ys)]=>Q (.v (.list ys)) U
 |_=>False
theorem Sy{K:PySem.W.Frag}:si K (fun xs H Q=>∃p ys,xs=[.ref p]/\(SqL K H p ys\/SqT K H p ys)/\∀l,H l=none->Q (.ref l) (upd H l (.lst ys))) oV:=by
 intro xs us H U Qd Q ok rs h k
 unfold oV at h
 split at h
 ·cases rs with
  |cons r1 r2=>
   cases r2
   cases r1 with
   |list hs hn r=>exact⟨_,_,rfl,.inl (SqL.of hs),fun p hp=>k (.v _) _ U _ (dZ hp) (ok.new hp) (mK ok r hp) h⟩
 ·cases rs with
  |cons r1 r2=>
   cases r2
   cases r1 with
   |tuple hs r=>exact⟨_,_,rfl,.inr hs,fun p hp=>k (.v _) _ U _ (dZ hp) (ok.new hp) (mK ok r hp) h⟩
 ·exact h.elim
theorem xt(hg:Gl X "list")(hm:X.mg "list"=none)(ha:DA X (e::es) t)
  (he:starEach (e::es) X.env=(false,eval e X.env)::starEach es X.env:=by rfl) (hpl:(backTo pos (starEach es X.env)).any (·.1)=false:=by rfl):DE X (.Call (.Name "list" p) (e::es) [] pos) (dCB oV t):=
 A1 Jm Sy hg hm PyProof.Rows.Boot.«list» ha ⋯ ⋯ he hpl
theorem K2:∀{bs:List Bool} {us:List Value},Vals (bs.map V.bl) us->us=bs.map Value.bool
 |[],_,.nil=>rfl
 |b::r,_,.cons h t=>by cases h;rw[K2 t];rfl
theorem Pg(hc:X.calm=true):n8 X (.builtin "all") (fun xs H Q=>∃(p:Addr) (bs:List Bool),xs=[.ref p]/\H p=some (.lst (bs.map V.bl))/\Q (.bl (bs.all id)) H):=by
 intro pins s Z H xs us Q I r h
 obtain⟨l,bs,rfl,hl,q⟩:=h
 obtain⟨u,rfl,rx⟩:=vals1 r
 cases rx
 obtain⟨its,rv,pl,_⟩:=I.list (SqL.of hl)
 have eb:=K2 rv
 subst eb
 have hL:=pl.isList
 have hlt:=pl.lt
 refine call_all_walk (wpAny_pyIter_list hL ?_)
 refine⟨s.heap.objs.size,[s.heap.objs.size,l],[s.heap.objs.size],(bs.map Value.bool).toArray.size,_,_,fun i=>(bs[i]?).getD true,rfl,Walks.list (A:=X.A.in1) (by exact I.ok.hd hc) _ l (ne_of_lt hlt) (bs.map Value.bool).toArray,
  ⟨⟨_,Heap.get?_push_size _ rfl,rfl,rfl⟩,hL.push _⟩,fun i v s' Q' E' hP hQ=>?_,fun h' tk hk=>?_⟩
 ·have hP':(bs.map Value.bool)[i]? = some v:=by simpa using hP
  rw[getElem?_map] at hP'
  cases z:bs[i]? with
  |none=>rw[z] at hP';cases hP'
  |some b=>
   rw[z] at hP'
   cases hP'
   simp only[z,Option.getD_some] at hQ
   exact wpAny_truthy_bool hQ
 ·have e:((List.range (bs.map Value.bool).toArray.size).all fun i=>(bs[i]?).getD true)=bs.all id:=by
   rw[size_toArray,length_map];exact PyProof.Rows.LSm.range_all bs
  rw[e]
  exact⟨.bl (bs.all id),H,I.kept (PyProof.Rows.LSm.kept_iter hk),rfl,q⟩
def eZ:List PyData->Option (List Bool)
 |[]=>some []
 |.bool b::r=>(eZ r).map (b::·)
 |_::_=>none
theorem FG{K:PySem.W.Frag}{U:Mu}{H:Hp}:∀{xs:List PyData} {us:List V} {bs:List Bool},RpL K U H xs us->eZ xs=some bs->us=bs.map V.bl
 |_,_,_,.nil,e=>by cases e;rfl
 |.bool b::r,_,bs,.cons h t,e=>by
  simp only[eZ] at e
  cases q:eZ r with
  |none=>rw[q] at e;cases e
  |some cs=>rw[q] at e;cases e;cases h;rw[FG t q];rfl
 |.none::r,_,bs,.cons h t,e=>by simp[eZ] at e
 |.int _::r,_,bs,.cons h t,e=>by simp[eZ] at e
 |.str _::r,_,bs,.cons h t,e=>by simp[eZ] at e
 |.list _::r,_,bs,.cons h t,e=>by simp[eZ] at e
 |.tuple _::r,_,bs,.cons h t,e=>by simp[eZ] at e
 |.dict _::r,_,bs,.cons h t,e=>by simp[eZ] at e
def CF:List D->Mu->DK->Prop:=fun xs U Q=>match xs with
 |[.v (.list ys)]=>(match eZ ys with|some bs=>Q (.v (.bool (bs.all id))) U|none=>False)
 |_=>False
theorem U4{K:PySem.W.Frag}:si K (fun xs H Q=>∃(p:Addr) (bs:List Bool),xs=[.ref p]/\H p=some (.lst (bs.map V.bl))/\Q (.bl (bs.all id)) H) CF:=by
 intro xs us H U Qd Q ok rs h k
 unfold CF at h
 split at h
 ·rename_i ys
  cases q:eZ ys with
  |none=>rw[q] at h;exact h.elim
  |some bs=>
   rw[q] at h
   cases rs with
   |cons r1 r2=>
    cases r2
    cases r1 with
    |list hs hn r=>exact⟨_,bs,rfl,by rw[hs,FG r q],k (.v _) _ U H .refl ok (Rp.bool _) h⟩
 ·exact h.elim
theorem Iu(hc:X.calm=true)(hg:Gl X "all")(hm:X.mg "all"=none)(ha:DA X (e::es) t)
  (he:starEach (e::es) X.env=(false,eval e X.env)::starEach es X.env:=by rfl) (hpl:(backTo pos (starEach es X.env)).any (·.1)=false:=by rfl):DE X (.Call (.Name "all" p) (e::es) [] pos) (dCB CF t):=
 n6 (Pg hc) U4 hg hm PyProof.Rows.Boot.«all» ha ⋯ ⋯ he hpl
def tyD:PyData->String
 |.none=>"NoneType"
 |.bool _=>"bool"
 |.int _=>"int"
 |.str _=>"str"
 |.list _=>"list"
 |.tuple _=>"tuple"
 |.dict _=>"dict"
def isT(T:String)(d:PyData):Bool:=tyD d==T || (T == "int"&&tyD d == "bool")
theorem Pr{pins:List (Addr×Obj)}{Z:St}{H:Hp}{s:Shared}{U:Mu}{d:PyData}{u:V}{v:Value}{k:Bool}{A:Around}{E:Value->Shared->Prop}{Q:Value->Shared->Prop}(I:Inv X pins Z H s)(r:Rp X.K U H d u)(rx:RelV u v)
  (ek:kitOne X.K (.type (tyD d)) (.type T)=some k) (h:∀tk,Q (.bool k) {s with toks:=tk}):wpAny (model X.prog X.w) A (call (.builtin "isinstance") [v,.type T]) Q E s:=by
 cases r with
 |none=>cases rx;exact kia_one PySem.W.kitx_none I.kIn True.intro ek (fun z=>nomatch z) h
 |bool b=>cases rx;exact kia_one PySem.W.kitx_bool I.kIn True.intro ek (fun z=>nomatch z) h
 |int i=>obtain⟨t,rfl⟩:=rx;exact kia_one PySem.W.kitx_int I.kIn True.intro ek (fun z=>nomatch z) h
 |str y=>obtain⟨t,rfl⟩:=rx;exact kia_one PySem.W.kitx_str I.kIn True.intro ek (fun z=>nomatch z) h
 |list hs hn q=>
  cases rx
  obtain⟨its,rv,⟨o,n,h1,h2,_⟩,_⟩:=I.list (SqL.of hs)
  exact kia_one PySem.W.kitx_list I.kIn ⟨o,h1,h2⟩ ek (fun z=>nomatch z) h
 |tuple hs q=>
  cases rx
  obtain⟨its,rv,⟨o,h1,h2,_⟩,_⟩:=I.tuple hs
  exact kia_one PySem.W.kitx_tuple I.kIn ⟨o,h1,h2⟩ ek (fun z=>nomatch z) h
theorem OD(K:PySem.W.Frag)(d:PyData):kitOne K (.type (tyD d)) (.type "int")=some (isT "int" d):=by cases d<;>rfl
theorem Kf(K:PySem.W.Frag)(d:PyData):kitOne K (.type (tyD d)) (.type "bool")=some (isT "bool" d):=by cases d<;>rfl
theorem kit_tuple(K:PySem.W.Frag)(d:PyData):kitOne K (.type (tyD d)) (.type "tuple")=some (isT "tuple" d):=by cases d<;>rfl
theorem Kl(kt:∀d,kitOne X.K (.type (tyD d)) (.type T)=some (isT T d)):n8 X (.builtin "isinstance") (fun xs H Q=>∃U d u,xs=[u,.ty T]/\Rp X.K U H d u/\Q (.bl (isT T d)) H):=by
 intro pins s Z H xs us Q I r h
 obtain⟨U,d,u,rfl,rd,q⟩:=h
 obtain⟨v,w',rfl,r1,r2⟩:=vals2 r
 cases r2
 exact Pr I rd r1 (kt d) fun tk=>⟨.bl (isT T d),H,I.tok _,rfl,q⟩
noncomputable def EO(T:String)(te:DTE):DTE:=fun ρ U Q=>te ρ U fun x ac=>match x with
 |.v d=>Q (.v (.bool (isT T d))) ac
 |_=>False
theorem p4{y:Str}{py:Pos}(kt:∀d,kitOne X.K (.type (tyD d)) (.type T)=some (isT T d))(hg:Gl X "isinstance")(hm:X.mg "isinstance"=none)(hgy:Gl X y)(hmy:X.mg y=none)(hvy:bootBuiltins y=some (.type T))(ha:DE X e te)
  (hny:y ≠ "__name__":=by decide) (hdy:(y==("__debug__":Str))=false:=by decide)
  (he:starEach [e,.Name y py] X.env=(false,eval e X.env)::starEach [.Name y py] X.env:=by rfl) (he2:starEach [.Name y py] X.env=[(false,eval (.Name y py) X.env)]:=by rfl) (hpl:(backTo pos (starEach [.Name y py] X.env)).any (·.1)=false:=by rfl):DE X (.Call (.Name "isinstance" p) [e,.Name y py] [] pos) (EO T te):=by
 obtain⟨t1,p1,l1⟩:=ha
 refine⟨_,zL (Kl kt) hg hm PyProof.Rows.Boot.«isinstance» (kX p1 (kX (OE (v:=.ty T) hgy hmy hvy rfl hny hdy) we he2) he) ⋯ ⋯ he hpl,fun Z H ρ U Qd Q S h k=>?_⟩
 refine l1 Z H ρ U _ _ S h fun x ux ac H1 e1 S1 rx h1=>?_
 split at h1
 ·exact⟨ac,_,ux,rfl,rx,k (.v _) _ ac H1 e1 S1 (Rp.bool _) h1⟩
 ·exact h1.elim
end
section
variable {X:Cx}{a b e:Expr}{es:List Expr}{ta tb te:DTE}{t:DTA}{p pos:Pos}{st:Stmt}{rest sts:List Stmt}{td ud:DTS}{tc:DTT}
noncomputable def cg:DTS:=fun Dd ρ U=>Dd.nx ρ U
noncomputable def aY(t u:DTS):DTS:=fun Dd ρ U=>t {Dd with nx:=u Dd} ρ U
noncomputable def bM(te:DTE):DTS:=fun Dd ρ U=>te ρ U Dd.rt
noncomputable def kN(te:DTE):DTS:=fun Dd ρ U=>te ρ U fun _ ac=>Dd.nx ρ ac
noncomputable def cZ(c:DTT)(t u:DTS):DTS:=fun Dd ρ U=>c ρ U fun b ac=>if b=true then t Dd ρ ac else u Dd ρ ac
theorem br:DSs X [] cg:=⟨_,Sd,fun Z H ρ U Dd De S h k1 k2 k3 k4=>k1 Z ρ U H .refl S h⟩
theorem av(h:DS X st td):DSs X [st] td:=let ⟨t,p,l⟩:=h;⟨t,Tx p,l⟩
theorem lift_seq{K:PySem.W.Frag}{t u:TS}(l1:Hb K t td)(l2:Hb K u ud):Hb K (Xa t u) (aY td ud):=by
 intro Z H ρ U Dd De S h k1 k2 k3 k4
 refine l1 Z H ρ U _ _ S h (fun al am Y H' e' S' h'=>?_) k2 k3 k4
 exact l2 al H' am Y Dd De S' h' (fun a b c d e2=>k1 a b c d (e'.trans e2)) (fun a b c d e2=>k2 a b c d (e'.trans e2)) (fun a b c d e2=>k3 a b c d (e'.trans e2)) (fun a b c d e2=>k4 a b c d (e'.trans e2))
theorem aj(h1:DS X st td)(h2:DSs X rest ud):DSs X (st::rest) (aY td ud):=by
 obtain⟨t1,p1,l1⟩:=h1
 obtain⟨t2,p2,l2⟩:=h2
 exact⟨_,Fq p1 p2,lift_seq l1 l2⟩
theorem aJ(he:DE X e te):DS X (.Return (some e) pos) (bM te):=by
 obtain⟨t1,p1,l1⟩:=he
 exact⟨_,VY p1,fun Z H ρ U Dd De S h k1 k2 k3 k4=>l1 Z H ρ U _ _ S h fun d u Y H' e' S' r q=>k2 d u Y H' e' S'.mu r q⟩
theorem fA(he:DE X e te)(hs:swapsWith e none pos.line X.env=pure false:=by rfl):DS X (.Expr e pos) (kN te):=by
 obtain⟨t1,p1,l1⟩:=he
 exact⟨_,OC p1 hs,fun Z H ρ U Dd De S h k1 k2 k3 k4=>l1 Z H ρ U _ _ S h fun d u Y H' e' S' r q=>k1 Z ρ Y H' e' S' q⟩
theorem bY{c:Expr}{x y:List Stmt}(hc:DT X c tc)(ha:DSs X x td)(hb:DSs X y ud):DS X (.If c x y pos) (cZ tc td ud):=by
 obtain⟨t0,p0,l0⟩:=hc
 obtain⟨t1,p1,l1⟩:=ha
 obtain⟨t2,p2,l2⟩:=hb
 refine⟨_,Um p0 p1 p2,fun Z H ρ U Dd De S h k1 k2 k3 k4=>?_⟩
 refine l0 Z H ρ U _ _ S h fun c ac H1 e1 S1 h1=>?_
 cases c with
 |true=>exact BX (l1 Z H1 ρ ac Dd De S1 (by simpa using h1) (fun a b c d e2=>k1 a b c d (e1.trans e2)) (fun a b c d e2=>k2 a b c d (e1.trans e2)) (fun a b c d e2=>k3 a b c d (e1.trans e2)) (fun a b c d e2=>k4 a b c d (e1.trans e2)))
 |false=>exact Df (l2 Z H1 ρ ac Dd De S1 (by simpa using h1) (fun a b c d e2=>k1 a b c d (e1.trans e2)) (fun a b c d e2=>k2 a b c d (e1.trans e2)) (fun a b c d e2=>k3 a b c d (e1.trans e2)) (fun a b c d e2=>k4 a b c d (e1.trans e2)))
abbrev DTG:=D->Rho->Mu->(Rho->Mu->Prop)->Prop
abbrev Gj:=List PyData->Rho->Mu->(Rho->Mu->Prop)->Prop
noncomputable def RR(K:PySem.W.Frag)(g:TG)(gd:DTG):Prop:=∀(Z:St) (H:Hp) (ρ:Rho) (U:Mu) (d:D) (u:V) (Qd:Rho->Mu->Prop) (Q:St->Hp->Prop),St0 K H ρ U Z->RpD K U H d u->gd d ρ U Qd ->
 (∀al am Y H',Ext K U H Y H'->St0 K H' am Y al->Qd am Y->Q al H')->g u Z H Q
noncomputable def UM(K:PySem.W.Frag)(g:TGs)(gd:Gj):Prop:=∀(Z:St) (H:Hp) (ρ:Rho) (U:Mu) (ds:List PyData) (us:List V) (Qd:Rho->Mu->Prop) (Q:St->Hp->Prop),St0 K H ρ U Z->RpL K U H ds us->gd ds ρ U Qd ->
 (∀al am Y H',Ext K U H Y H'->St0 K H' am Y al->Qd am Y->Q al H')->g us Z H Q
noncomputable def DG(X:Cx)(tg:Expr)(gd:DTG):Prop:=∃g,PG X tg g/\RR X.K g gd
noncomputable def DGs(X:Cx)(tg:List Expr)(gd:Gj):Prop:=∃g,PGs X tg g/\UM X.K g gd
theorem gQ.set{K:PySem.W.Frag}{U:Mu}{H:Hp}{ρ:Rho}{Z:St}{i:Nat}{d:D}{u:V}(r:gQ K U H ρ Z)(h:RpD K U H d u):gQ K U H (ρ.set i (some d)) (Z.set i (some u)):=by
 refine⟨by rw[List.length_set,List.length_set];exact r.1,fun j d' e=>?_⟩
 by_cases hj:i=j
 ·subst hj
  have hl:i<ρ.length:=by
   have:=(List.getElem?_eq_some_iff.mp e).1
   rw[List.length_set] at this
   exact this
  rw[List.getElem?_set_self hl] at e
  cases e
  exact⟨u,List.getElem?_set_self (by rw[<- r.1];exact hl),h⟩
 ·rw[List.getElem?_set_ne hj] at e
  obtain⟨w,e1,e2⟩:=r.2 j d' e
  exact⟨w,by rw[List.getElem?_set_ne hj];exact e1,e2⟩
noncomputable def ar(i:Nat):DTG:=fun d ρ U Q=>Q (ρ.set i (some d)) U
theorem EE{K:PySem.W.Frag}{i:Nat}:RR K (QM i) (ar i):=fun Z H ρ U d u Qd Q S r h k=>k _ _ U H .refl ⟨S.mu,S.rho.set r⟩ h
theorem aV{i:Nat}{x:Str}(hN:X.N.Nodup)(hi:X.N[i]? = some x)(hx:Loc X.env.scope x)(hf:X.fn x=true\/X.env.scope.names.lookup x=some .local:=by first|exact .inl rfl|exact .inr rfl|assumption):DG X (.Name x pos) (ar i):=⟨_,Tq hN hi hx hf,EE⟩
def i7:Gj:=fun ds ρ U Q=>match ds with
 |[]=>Q ρ U
 |_=>False
def bS(g:DTG)(gs:Gj):Gj:=fun ds ρ U Q=>match ds with
 |d::r=>g (.v d) ρ U fun o0 ac=>gs r o0 ac Q
 |_=>False
theorem fQ:DGs X [] i7:=⟨_,N2,fun Z H ρ U ds us Qd Q S r h k=>by
 cases r with
 |nil=>exact⟨rfl,k Z ρ U H .refl S h⟩
 |cons _ _=>exact h.elim⟩
theorem bD{g:DTG}{gs:Gj}(h1:DG X e g)(h2:DGs X es gs)(hs:(assignEach (e::es) X.env).map (·.2)=assign e X.env::(assignEach es X.env).map (·.2):=by rfl):DGs X (e::es) (bS g gs):=by
 obtain⟨t1,p1,l1⟩:=h1
 obtain⟨t2,p2,l2⟩:=h2
 refine⟨_,J7 p1 p2 hs,fun Z H ρ U ds us Qd Q S r h k=>?_⟩
 cases r with
 |nil=>exact h.elim
 |@cons d u ds us r1 r2=>
  refine⟨u,us,rfl,l1 Z H ρ U (.v d) u _ _ S r1 h fun al am Y H' e1 S' h1=>?_⟩
  exact l2 al H' am Y ds us _ _ S' (r2.ext S.mu e1) h1 fun a b c d e2=>k a b c d (e1.trans e2)
noncomputable def iP(n:Nat)(gs:Gj):DTG:=fun d ρ U Q=>match d with
 |.v (.tuple xs)=>xs.length=n/\gs xs ρ U Q
 |_=>False
theorem iR{k n:Nat}{gs:Gj}(hc:X.calm=X.calm)(h:DGs X es gs)
  (hn:(assignEach es X.env).length=n:=by rfl) (hst:(assignEach es X.env).findIdx? (·.1)=none:=by rfl):DG X (.Tuple es k pos) (iP n gs):=by
 obtain⟨t1,p1,l1⟩:=h
 refine⟨_,RS hc p1 hn hst,fun Z H ρ U d u Qd Q S r h k=>?_⟩
 unfold iP at h
 split at h
 ·cases r with
  |@tuple a us _ ha ra=>exact⟨a,us,rfl,ha,by rw[<- ra.length];exact h.1,l1 Z H ρ U _ us _ _ S ra h.2 k⟩
 ·exact h.elim
noncomputable def Ox(to ti:DTE):DTG:=fun d ρ U Q=>to ρ U fun o ac=>ti ρ ac fun i ad=>match o,i,d with
 |.m l,.v (.int k),.v x=>(match ad l with
  |some xs=>(match ixN xs.length k with
   |some j=>Q ρ (aR ad l (xs.set j x))
   |none=>False)
  |none=>False)
 |_,_,_=>False
theorem RQ{o i:Expr}{to ti:DTE}(ho:DE X o to)(hi:DE X i ti)
  (ha:∀v,assign (.Subscript o i pos) X.env v=(do
   let ov <- holding [v] (eval o X.env)
   let iv <- holding [v,ov] (eval i X.env)
   standAt pos
   holding [v,ov,iv] (setItem ov iv v)
   release [v,ov,iv] []):=by intro _;rfl):DG X (.Subscript o i pos) (Ox to ti):=by
 obtain⟨t1,p1,l1⟩:=ho
 obtain⟨t2,p2,l2⟩:=hi
 refine⟨_,VQ p1 p2 set_list ha,fun Z H ρ U d u Qd Q S r h k=>?_⟩
 refine l1 Z H ρ U _ _ S h fun x ux ac H1 e1 S1 rx h1=>?_
 refine l2 Z H1 ρ ac _ _ S1 h1 fun y uy ad H2 e2 S2 ry h2=>?_
 have r2:=(r.ext S.mu e1).ext S1.mu e2
 have rx2:=rx.ext S1.mu e2
 split at h2
 ·rename_i l kk xv
  obtain⟨rfl,ds,hm⟩:=rx2
  cases ry
  rw[hm] at h2
  obtain⟨us,hl,rl⟩:=S2.mu l ds hm
  simp only at h2
  cases q:ixN ds.length kk with
  |none=>rw[q] at h2;exact h2.elim
  |some j=>
   rw[q] at h2
   refine⟨l,us,kk,j,rfl,rfl,hl,by rw[<- rl.length];exact q,?_⟩
   have ex:Ext X.K ad H2 (aR ad l (ds.set j xv)) (upd H2 l (.lst (us.set j u))):=pB hm
   exact k Z ρ _ _ (e1.trans (e2.trans ex)) ⟨S2.mu.set hm (rl.set r2 j),S2.rho.ext S2.mu ex⟩ h2
 ·exact h2.elim
noncomputable def bJ(te:DTE)(g:DTG):DTS:=fun Dd ρ U=>te ρ U fun d ac=>g d ρ ac Dd.nx
theorem JU{K:PySem.W.Frag}{t:TE}{g:TG}{gd:DTG}(l1:AH K t te)(l2:RR K g gd):Hb K (UI t g) (bJ te gd):=by
 intro Z H ρ U Dd De S h k1 k2 k3 k4
 refine l1 Z H ρ U _ _ S h fun d u ac H1 e1 S1 r h1=>?_
 exact l2 Z H1 ρ ac d u _ _ S1 r h1 fun a b c d e2=>k1 a b c d (e1.trans e2)
theorem rL{tg:Expr}{g:DTG}(he:DE X e te)(hg:DG X tg g)(hs:swapsWithSole [tg] e pos.line X.env=pure false:=by rfl)(hw:swappedStores [tg] e X.env=pure none:=by rfl)
  (h1:(assignEach [tg] X.env).map (·.2)=[assign tg X.env]:=by rfl):DS X (.Assign [tg] e pos) (bJ te g):=by
 obtain⟨t1,p1,l1⟩:=he
 obtain⟨t2,p2,l2⟩:=hg
 exact⟨_,Wc p1 p2 hs hw h1,JU l1 l2⟩
theorem aT{i:Nat}{x:Str}{pos':Pos}(hN:X.N.Nodup)(hi:X.N[i]? = some x)(hx:Loc X.env.scope x)(he:DE X e te)(hs:swapsWith e (some (.Name x pos')) pos.line X.env=pure false:=by rfl)(hf:X.fn x=true\/X.env.scope.names.lookup x=some .local:=by first|exact .inl rfl|exact .inr rfl|assumption) :
  DS X (.Assign [.Name x pos'] e pos) (bJ te (ar i)):=by
 obtain⟨t1,p1,l1⟩:=he
 exact⟨_,VZ hN hi hx p1 hs hf,JU l1 EE⟩
noncomputable def LG(i j:Nat)(t:DTA):DTS:=fun Dd ρ U=>t ρ U fun ds ac=>match ds with
 |[v,w]=>Dd.nx ((ρ.set i (some v)).set j (some w)) ac
 |_=>False
theorem Bs{i j:Nat}{x y:Str}{a b:Expr}{t:DTA}{px py pt:Pos}{kt k2 pt2}(hc:X.calm=true)(hN:X.N.Nodup)(hi:X.N[i]? = some x)(hj:X.N[j]? = some y)(hij:i≠j)
  (hx:X.env.scope.names.lookup x=some .local) (hy:X.env.scope.names.lookup y=some .local) (ha:DA X [a,b] t)
  (hw:swappedStores [.Tuple [.Name x px,.Name y py] kt pt] (.Tuple [a,b] k2 pt2) X.env=pure (some [x,y]))
  (hs:swapsWithSole [.Tuple [.Name x px,.Name y py] kt pt] (.Tuple [a,b] k2 pt2) pos.line X.env=pure false:=by rfl) :
  DS X (.Assign [.Tuple [.Name x px,.Name y py] kt pt] (.Tuple [a,b] k2 pt2) pos) (LG i j t):=by
 obtain⟨t1,p1,l1⟩:=ha
 refine⟨_,V2 hc hN hi hj hij hx hy p1 hw hs,fun Z H ρ U Dd De S h k1 k2 k3 k4=>?_⟩
 refine l1 Z H ρ U _ _ S h fun ds us ac H1 e1 S1 rs len h1=>?_
 split at h1
 ·cases rs with
  |cons r1 r2=>
   cases r2 with
   |cons r2 r3=>
    cases r3
    exact⟨_,_,rfl,k1 _ _ ac H1 e1 ⟨S1.mu,(S1.rho.set r1).set r2⟩ h1⟩
 ·exact h1.elim
noncomputable def FJ(c:DTT)(tb:DTS):DTS:=fun Dd ρ U=>∃W:Nat->Rho->Mu->Prop,(∃m,W m ρ U)/\∀m ρ U,W m ρ U ->
 c ρ U fun b ac=>if b=true then tb {Dd with nx:=fun am Y=>∃m',m'<m/\W m' am Y,ct:=fun am Y=>∃m',m'<m/\W m' am Y,bk:=Dd.nx} ρ ac else Dd.nx ρ ac
theorem FX{c:Expr}{body:List Stmt}(hp:PassesOwn (model X.prog X.w) X.A X.env X.xe)(hc:DT X c tc)(hb:DSs X body td):DS X (.While c body [] pos) (FJ tc td):=by
 obtain⟨t0,p0,l0⟩:=hc
 obtain⟨t1,p1,l1⟩:=hb
 refine⟨_,Qk hp p0 p1,fun Z H ρ U Dd De S h k1 k2 k3 k4=>?_⟩
 obtain⟨W,⟨m,w0⟩,turn⟩:=h
 refine⟨fun m al H'=>∃am Y,Ext X.K U H Y H'/\St0 X.K H' am Y al/\W m am Y,⟨m,ρ,U,.refl,S,w0⟩,?_⟩
 rintro m nw H1 ⟨o0,ac,e1,S1,w1⟩
 refine l0 nw H1 o0 ac _ _ S1 (turn m o0 ac w1) fun b ad H2 e2 S2 h2=>?_
 cases b with
 |true=>
  refine BX ⟨fun al H'=>∃m',m'<m/\∃am Y,Ext X.K U H Y H'/\St0 X.K H' am Y al/\W m' am Y,fun al H' ⟨m',hm,q⟩=>⟨m',hm,q⟩,?_⟩
  have nxt:∀al am Y H',Ext X.K ad H2 Y H'->St0 X.K H' am Y al->(∃m',m'<m/\W m' am Y)->∃m',m'<m/\∃am Y,Ext X.K U H Y H'/\St0 X.K H' am Y al/\W m' am Y:=
   fun al am Y H' e3 S3 ⟨m',hm,q⟩=>⟨m',hm,am,Y,e1.trans (e2.trans e3),S3,q⟩
  rw[if_pos rfl] at h2
  exact l1 nw H2 o0 ad _ _ S2 h2 nxt (fun a b c d e3=>k2 a b c d (e1.trans (e2.trans e3))) (fun a b c d e3=>k1 a b c d (e1.trans (e2.trans e3))) nxt
 |false=>exact Df (k1 nw o0 ad H2 (e1.trans e2) S2 (by simpa using h2))
abbrev DTI:=Rho->Mu->(List PyData->Mu->Prop)->Prop
noncomputable def PZ(K:PySem.W.Frag)(J:It)(xs:List PyData)(ac:Mu)(H1:Hp):Prop:=∀ad H2,Ext K ac H1 ad H2->dj K ad H2->∀i,(i<xs.length->J.go i H2/\∀x H',J.yld i H2 x H'->∃d,xs[i]? = some d/\EV H2 H'/\Rp K ad H' d x)/\(i=xs.length->J.stop i H2)
noncomputable def XX(K:PySem.W.Frag)(wi:TI)(src:DTI):Prop:=∀(Z:St) (H:Hp) (ρ:Rho) (U:Mu) (Qd:List PyData->Mu->Prop) (R:It->Hp->Prop),St0 K H ρ U Z->src ρ U Qd ->
 (∀xs ac H1 J,Ext K U H ac H1->St0 K H1 ρ ac Z->PZ K J xs ac H1->Qd xs ac->R J H1)->wi Z H R
noncomputable def DI(X:Cx)(tg iter:Expr)(src:DTI):Prop:=∃wi,PI X tg iter wi/\XX X.K wi src
variable {tg:Expr}
noncomputable def gb(te:DTE):DTI:=fun ρ U Q=>te ρ U fun d ac=>match d with
 |.v (.list xs)=>Q xs ac
 |_=>False
noncomputable def D8(te:DTE):DTI:=fun ρ U Q=>te ρ U fun d ac=>match d with
 |.v (.tuple xs)=>Q xs ac
 |_=>False
theorem fS(h:DE X e te):DI X tg e (gb te):=by
 obtain⟨t1,p1,l1⟩:=h
 refine⟨_,Od p1,fun Z H ρ U Qd R S h k=>?_⟩
 refine l1 Z H ρ U _ _ S h fun d u ac H1 e1 S1 r h1=>?_
 split at h1
 ·rename_i xs
  cases r with
  |@list a us _ ha hn ra=>
   refine⟨a,rfl,⟨us,SqL.of ha⟩,k xs ac H1 _ e1 S1 (fun ad H2 e2 ok2 i=>⟨fun hi=>?_,fun hi=>?_⟩) h1⟩
   ·have ha2:=e2.keep _ _ ha hn trivial
    have hiu:i<us.length:=by rw[<- ra.length];exact hi
    refine⟨⟨us,us[i],SqL.of ha2,by simp[hiu]⟩,fun x H' ⟨eH,hx⟩=>?_⟩
    subst eH
    obtain⟨u',h1',h2'⟩:=ra.get (i:=i) (d:=xs[i]) (by simp[hi])
    have:=hx us (SqL.of ha2)
    rw[h1'] at this
    cases this
    exact⟨xs[i],by simp[hi],EV.refl _,h2'.ext S1.mu e2⟩
   ·exact⟨us,SqL.of (e2.keep _ _ ha hn trivial),by rw[<- ra.length];omega⟩
 ·exact h1.elim
theorem DV(h:DE X e te):DI X tg e (D8 te):=by
 obtain⟨t1,p1,l1⟩:=h
 refine⟨_,UQ p1,fun Z H ρ U Qd R S h k=>?_⟩
 refine l1 Z H ρ U _ _ S h fun d u ac H1 e1 S1 r h1=>?_
 split at h1
 ·rename_i xs
  cases r with
  |@tuple a us _ ha ra=>
   refine⟨a,rfl,⟨us,ha⟩,k xs ac H1 _ e1 S1 (fun ad H2 e2 ok2 i=>⟨fun hi=>?_,fun hi=>?_⟩) h1⟩
   ·have ha2:=JH S1.mu e2 ha
    have hiu:i<us.length:=by rw[<- ra.length];exact hi
    refine⟨⟨us,us[i],ha2,by simp[hiu]⟩,fun x H' ⟨eH,hx⟩=>?_⟩
    subst eH
    obtain⟨u',h1',h2'⟩:=ra.get (i:=i) (d:=xs[i]) (by simp[hi])
    have:=hx us ha2
    rw[h1'] at this
    cases this
    exact⟨xs[i],by simp[hi],EV.refl _,h2'.ext S1.mu e2⟩
   ·exact⟨us,JH S1.mu e2 ha,by rw[<- ra.length];omega⟩
 ·exact h1.elim
def wG(lo:Int)(n:Nat):List PyData:=(List.range n).map fun (i:Nat)=>PyData.int (lo+(i:Int))
theorem Q2{K:PySem.W.Frag}{lo:Int}{n:Nat}{U:Mu}{H:Hp}:PZ K (Itr lo n) (wG lo n) U H:=fun ad H2 e2 ok2 i=>by
 have hl:(wG lo n).length=n:=by unfold wG;simp
 refine⟨fun hi=>?_,fun hi=>?_⟩
 ·rw[hl] at hi
  refine⟨hi,fun x H' ⟨eH,hx⟩=>?_⟩
  subst eH hx
  exact⟨.int (lo+i),by unfold wG;simp[hi],EV.refl _,.int _⟩
 ·show n<=i
  omega
noncomputable def uB(t:DTA):DTI:=fun ρ U Q=>t ρ U fun ds ac=>match ds with
 |[.v (.int j)]=>(-(2 ^ 62)<=j/\j<2 ^ 62)/\Q (wG 0 j.toNat) ac
 |_=>False
noncomputable def Ma(t:DTA):DTI:=fun ρ U Q=>t ρ U fun ds ac=>match ds with
 |[.v (.int i),.v (.int j)]=>(-(2 ^ 62)<=i/\i<2 ^ 62/\-(2 ^ 62)<=j/\j<2 ^ 62)/\Q (wG i (j-i).toNat) ac
 |_=>False
theorem xB{a:Expr}{t:DTA}{p pos:Pos}(hg:Gl X "range")(hm:X.mg "range"=none)(ha:DA X [a] t)(hs:starEach [a] X.env=[(false,eval a X.env)]:=by rfl)(hc:X.calm=true:=by rfl):DI X tg (.Call (.Name "range" p) [a] [] pos) (uB t):=by
 obtain⟨t1,p1,l1⟩:=ha
 refine⟨_,OQ hc hg hm p1 hs,fun Z H ρ U Qd R S h k=>?_⟩
 refine l1 Z H ρ U _ _ S h fun ds us ac H1 e1 S1 rs len h1=>?_
 split at h1
 ·rename_i j
  cases rs with
  |cons r1 r2=>cases r2;cases r1;exact⟨j,rfl,h1.1.1,h1.1.2,k _ ac H1 _ e1 S1 Q2 h1.2⟩
 ·exact h1.elim
theorem Si{a b:Expr}{t:DTA}{p pos:Pos}(hg:Gl X "range")(hm:X.mg "range"=none)(ha:DA X [a,b] t)(hs:starEach [a,b] X.env=[(false,eval a X.env),(false,eval b X.env)]:=by rfl)(hs2:starEach [b] X.env=[(false,eval b X.env)]:=by rfl)(hc:X.calm=true:=by rfl):DI X tg (.Call (.Name "range" p) [a,b] [] pos) (Ma t):=by
 obtain⟨t1,p1,l1⟩:=ha
 refine⟨_,PB hc hg hm p1 hs hs2,fun Z H ρ U Qd R S h k=>?_⟩
 refine l1 Z H ρ U _ _ S h fun ds us ac H1 e1 S1 rs len h1=>?_
 split at h1
 ·rename_i i j
  cases rs with
  |cons r1 r2=>
   cases r2 with
   |cons r2 r3=>cases r3;cases r1;cases r2;exact⟨i,j,rfl,h1.1,k _ ac H1 _ e1 S1 Q2 h1.2⟩
 ·exact h1.elim
noncomputable def GR(src:DTI)(g:DTG)(tb:DTS):DTS:=fun Dd ρ U=>src ρ U fun xs ac=>∃Pv:Nat->Rho->Mu->Prop,Pv 0 ρ ac /\
 (∀i x am Y,xs[i]? = some x->Pv i am Y->g (.v x) am Y fun db ad=>tb {Dd with nx:=Pv (i+1),ct:=Pv (i+1),bk:=Dd.nx} db ad)/\(∀am Y,Pv xs.length am Y->Dd.nx am Y)
theorem wI{iter:Expr}{body:List Stmt}{src:DTI}{g:DTG}(hp:PassesOwn (model X.prog X.w) X.A X.env X.xe)(hc:X.calm=true)(hi:DI X tg iter src)(hg:DG X tg g)(hb:DSs X body td)
  (hs:∀x,foldedSetIterable iter X.env x=pure x:=by intro _;rfl):DS X (.For tg iter body [] pos) (GR src g td):=by
 obtain⟨t0,p0,l0⟩:=hi
 obtain⟨t1,p1,l1⟩:=hg
 obtain⟨t2,p2,l2⟩:=hb
 refine⟨_,VU hp hc p0 p1 p2 hs,fun Z H ρ U Dd De S h k1 k2 k3 k4=>?_⟩
 refine l0 Z H ρ U _ _ S h fun xs ac H1 J e1 S1 it h1=>?_
 obtain⟨Pv,pv0,turn,fin⟩:=h1
 refine⟨fun i m al H'=>m=xs.length-i/\i<=xs.length/\∃am Y,Ext X.K ac H1 Y H'/\St0 X.K H' am Y al/\Pv i am Y,⟨xs.length,by simp,zero_le _,ρ,ac,.refl,S1,pv0⟩,?_⟩
 rintro i m al H' ⟨rfl,hi,am,Y,e2,S2,pv⟩
 obtain⟨go,stop⟩:=it Y H' e2 S2.mu i
 by_cases hlt:i<xs.length
 ·obtain⟨g1,y1⟩:=go hlt
  refine .inr ⟨g1,fun sB H2=>∃db ad,Ext X.K ac H1 ad H2/\St0 X.K H2 db ad sB/\Pv (i+1) db ad,fun sB H2 q=>⟨xs.length-(i+1),∅,rfl,hlt,q⟩,fun x H2 yl=>?_⟩
  obtain⟨d,hd,sm,rd⟩:=y1 x H2 yl
  have e3:Ext X.K Y H' Y H2:=.of_same sm
  have S3:St0 X.K H2 am Y al:=⟨S2.mu.PD e3 sm,S2.rho.ext S2.mu e3⟩
  refine l1 al H2 am Y (.v d) x _ _ S3 rd (turn i d am Y hd pv) fun wE wS ce H4 e4 S4 h4=>?_
  have nxt:∀a b c dd,Ext X.K ce H4 c dd->St0 X.K dd b c a->Pv (i+1) b c->∃db ad,Ext X.K ac H1 ad dd/\St0 X.K dd db ad a/\Pv (i+1) db ad:=fun a b c dd e5 S5 q=>⟨b,c,e2.trans (e3.trans (e4.trans e5)),S5,q⟩
  have ee:=e1.trans (e2.trans (e3.trans e4))
  exact l2 wE H4 wS ce _ _ S4 h4 nxt (fun a b c d e5=>k2 a b c d (ee.trans e5)) (fun a b c d e5=>k1 a b c d (ee.trans e5)) nxt
 ·have ei:i=xs.length:=by omega
  subst ei
  exact .inl ⟨stop rfl,k1 al am Y H' (e1.trans e2) S2 (fin am Y pv)⟩
end
abbrev DSp:=List D->Mu->DK->Prop
noncomputable def spD(K:PySem.W.Frag)(dsp:DSp):Sp:=fun vs H Q _=>∃(ds:List D) (U:Mu) (Qd:DK),dj K U H/\n5 K U H ds vs/\dsp ds U Qd /\
 (∀d u Y H',Ext K U H Y H'->dj K Y H'->RpD K Y H' d u->Qd d Y->Q u H')
def aS(N:List Str)(ds:List D):Rho:=ds.map some++List.replicate (N.length-ds.length) none
theorem n5.get{K:PySem.W.Frag}{U:Mu}{H:Hp}{ds:List D}{us:List V}:∀{i:Nat} {d:D},n5 K U H ds us->ds[i]? = some d->∃u,us[i]? = some u/\RpD K U H d u
 |_,_,.nil,h=>by simp at h
 |0,_,.cons r _,h=>by simp at h;subst h;exact⟨_,rfl,r⟩
 |i+1,d,.cons _ t,h=>by
  obtain⟨u,h1,h2⟩:=n5.get (i:=i) (d:=d) t (by simpa using h)
  exact⟨u,by simpa using h1,h2⟩
theorem BK{K:PySem.W.Frag}{U:Mu}{H:Hp}{N:List Str}{ds:List D}{vs:List V}(r:n5 K U H ds vs):gQ K U H (aS N ds) (start N vs):=by
 have hl:=r.length
 refine⟨by unfold aS start;simp[hl],fun i d e=>?_⟩
 unfold aS at e
 by_cases hi:i<ds.length
 ·rw[getElem?_append_left (by simpa using hi),getElem?_map] at e
  unfold start
  rw[getElem?_append_left (by simpa [hl] using hi),getElem?_map]
  cases q:ds[i]? with
  |none=>rw[q] at e;cases e
  |some d'=>
   rw[q] at e
   cases e
   obtain⟨u,h1,h2⟩:=r.get q
   exact⟨u,by rw[h1];rfl,h2⟩
 ·rw[List.getElem?_append_right (by simpa using hi),List.getElem?_replicate] at e
  split at e<;>cases e
section
variable {P:Program}{w:World}{K:PySem.W.Frag}{mg:Str->Option Value}{base:Heap}
theorem _root_.L2.Fun.okD{x qual:Str}{st:Stmt}{f:Addr}{fd:FuncData}{N ps:List Str}{k:Nat}{dsp:DSp}(F:Fun K x qual st f fd)(S:aN N ps (aC st))(len:∀ds U Q,dsp ds U Q->ds.length=ps.length)
  (hbody:∀(cdv:Value) (A:Around) (outer:List Env) (s:Shared) (H:Hp) (E:XK),j5 k (A.deeper (envOfC qual (aC st) s.heap.objs.size f cdv)) ->
   ∃td,DSs (rQ CX0 P w K mg base N qual (aC st) f cdv A outer s H E).nox (iL st) td/\∀ds U Qd,dsp ds U Qd->td ‹Qd› (aS N ds) U):bO P w K mg base CX0 (k+1) f fd ps (spD K dsp):=by
 refine F.ok S (fun vs H Q E h=>?_) (fun cdv A outer s H vs Q E hr h=>?_)
 ·obtain⟨ds,U,Qd,_,r,h,_⟩:=h
  rw[<- r.length]
  exact len ds U Qd h
 ·obtain⟨ds,U,Qd,ok,r,h,fin⟩:=h
  obtain⟨td,⟨t,p,l⟩,rd⟩:=hbody cdv A outer s H E hr
  refine⟨t,p,?_⟩
  exact l (start N vs) H (aS N ds) U _ _ ⟨ok,BK r⟩ (rd ds U Qd h) (fun al am Y H' e' S' q=>fin (.v .none) .non Y H' e' S'.mu Rp.none q) (fun d u Y H' e' ok' r' q=>fin d u Y H' e' ok' r' q) (fun _ _ _ _ _ _ q=>q) (fun _ _ _ _ _ _ q=>q)
end
section
variable {X:Cx}{e:Expr}{es:List Expr}{t:DTA}{p pos:Pos}{x:Str}{k:Nat}{f:Addr}{fd:FuncData}{ps:List Str}{dsp:DSp}
noncomputable def aB(dsp:DSp)(t:DTA):DTE:=fun ρ U Q=>t ρ U fun ds ac=>dsp ds ac Q
theorem ak(F:bO X.prog X.w X.K X.mg X.base CX0 k f fd ps (spD X.K dsp))(hr:j5 k X.A)(hg:Gl X x)(hm:X.mg x=some (.ref f))(hk:keepIn X.K (.ref f)=true)(hb:Binds X.K fd ps [])
  (ha:DA X (e::es) t) (hdb:(x==("__debug__":Str))=false:=by decide) (he:starEach (e::es) X.env=(false,eval e X.env)::starEach es X.env:=by rfl) (hpl:(backTo pos (starEach es X.env)).any (·.1)=false:=by rfl) :
  DE X (.Call (.Name x p) (e::es) [] pos) (aB dsp t):=by
 obtain⟨t1,p1,l1⟩:=ha
 refine⟨_,NV F hr hg hm hk hb .nil Wv p1 hdb he hpl,fun Z H ρ U Qd Q S h kk=>?_⟩
 refine l1 Z H ρ U _ _ S h fun ds us ac H1 e1 S1 rs len h1=>?_
 refine⟨ds,ac,Qd,S1.mu,by rw[List.append_nil];exact rs,h1,fun d u Y H' e2 ok r q=>?_⟩
 exact kk d u Y H' (e1.trans e2) ⟨ok,S1.rho.ext S1.mu e2⟩ r q
end
section
variable {X:Cx}{o e:Expr}{to te:DTE}{apos cpos:Pos}
noncomputable def MD(to te:DTE):DTE:=fun ρ U Q=>to ρ U fun x ac=>match x with
 |.m l=>te ρ ac fun y ad=>(match y,ad l with
  |.v d,some xs=>xs.length<1000/\Q (.v .none) (aR ad l (xs++[d]))
  |_,_=>False)
 |_=>False
theorem xr(ho:DE X o to)(ha:DE X e te)(hbase:attributeBase o "append" X.env (eval o X.env)=eval o X.env:=by rfl)
  (hfew:((backTo cpos (starEach [e] X.env)).all (fun x=>!x.1)&&(backToKw cpos (keywordEach [] X.env)).all (fun x=>x.1.isSome)
   && decide ([e].length+([]:List Keyword).length+(if ([]:List Keyword).isEmpty then 0 else 1)<30))=true:=by rfl)
  (hline:(apos.endLine==cpos.line)=true:=by rfl) (hs:starEach [e] X.env=(false,eval e X.env)::starEach [] X.env:=by rfl) (hplain:(backTo cpos (starEach [] X.env)).any (·.1)=false:=by rfl) :
  DE X (.Call (.Attribute o "append" apos) [e] [] cpos) (MD to te):=by
 obtain⟨t1,p1,l1⟩:=ho
 obtain⟨t2,p2,l2⟩:=ha
 refine⟨_,Ue PySem.F.plainAttrs_list PySem.F.slot_list_append PySem.F.type_list_append sr p1 (kX p2 we hs) hbase hfew hline hs hplain,fun Z H ρ U Qd Q S h k=>?_⟩
 refine l1 Z H ρ U _ _ S h fun x ux ac H1 e1 S1 rx h1=>?_
 cases x with
 |m l=>
  obtain⟨rfl,ds,hm⟩:=id rx
  obtain⟨us,hl,rl⟩:=S1.mu l ds hm
  refine⟨.inl ⟨rfl,us,SqL.of hl⟩,?_⟩
  refine l2 Z H1 ρ ac _ _ S1 h1 fun y uy ad H2 e2 S2 ry h2=>?_
  obtain⟨_,ds2,hm2⟩:=rx.ext S1.mu e2
  obtain⟨us2,hl2,rl2⟩:=S2.mu l ds2 hm2
  rw[hm2] at h2
  cases y with
  |v d=>
   have h3:ds2.length<1000/\Qd (.v .none) (aR ad l (ds2++[d])):=h2
   refine⟨l,us2,uy,rfl,rfl,hl2,by rw[<- rl2.length];exact gm (Nat.le_of_lt h3.1),?_⟩
   have ex:Ext X.K ad H2 (aR ad l (ds2++[d])) (upd H2 l (.lst (us2++[uy]))):=pB hm2
   exact k (.v .none) .non _ _ (e1.trans (e2.trans ex)) ⟨S2.mu.set hm2 (rl2.append (.cons ry .nil)),S2.rho.ext S2.mu ex⟩ Rp.none h3.2
  |m _=>exact h2.elim
  |s _=>exact h2.elim
  |o _=>exact h2.elim
  |q _=>exact h2.elim
 |v d=>exact h1.elim
 |s ns=>exact h1.elim
 |o _=>exact h1.elim
 |q _=>exact h1.elim
noncomputable def Yh(to te:DTE):DTE:=fun ρ U Q=>to ρ U fun x ac=>match x with
 |.m l=>te ρ ac fun y ad=>(match y,ad l with
  |.v (.list ys),some xs=>xs.length+ys.length<=1000/\Q (.v .none) (aR ad l (xs++ys))
  |_,_=>False)
 |_=>False
end
theorem g9{prog:Program}{w:World}{A:Around}{R:Result->Shared->Prop}{s:Shared}{elt target iter:Expr}{ifs:List Expr}{scope:Scope}{pos:Pos}{it acc:Value}{env:Env}(I:Nat->Shared->Prop)
  (turn:∀n s,I n s->wpAny (model prog w) A (pyNext it) (fun r cr=>match r with
   |none=>R (.ok .next) cr
   |some v=>wpAny (model prog w) A (letOwnedTupleGo target it v) (fun _ s'=>wpAny (model prog w) A (assign target env v) (fun _ l'=>
     wpAny (model prog w) A (forIn ifs true fun c r=>if r=true then do let ok <- isTrue c env (eval c env);pure (ForInStep.yield ok) else pure (ForInStep.yield r)) (fun ok bi=>
      if ok=true then wpAny (model prog w) A (eval elt env) (fun x u8=>
       wpAny (model prog w) A (call (.builtin "list.append") [acc,x]) (fun _ tz=>∃m,m<n/\I m tz) (fun _ _=>False) u8) (fun _ _=>False) bi
      else ∃m,m<n/\I m bi) (fun _ _=>False) l') (fun _ _=>False) s') (fun _ _=>False) cr) (fun _ _=>False) s)
  (n:Nat) (h:I n s) :
  codeAny (model prog w) A (.compLoop (.ListComp elt [⟨target,iter,ifs,0⟩] scope pos) 0 it acc env) R s:=by
 refine codeAny_loop rfl I (fun n s hI=>?_) n h
 show wpAny _ A ((compTurn (.ListComp elt [⟨target,iter,ifs,0⟩] scope pos) 0 it acc env).onRaise (fun x=>do noteFrame x env;theTreesLotGoes x)) _ _ s
 refine wpAny_noted ?_
 rw[compTurn_list]
 refine wpAny_bind (wpAny_standAt (wpAny_bind (wpAny_mono (turn n s hI) (fun r cr ii=>?_) fun _ _ h'=>h'.elim)))
 cases r with
 |none=>exact wpAny_pure ii
 |some v=>
  refine wpAny_bind (wpAny_mono ii (fun _ s' h'=>?_) fun _ _ h'=>h'.elim)
  refine wpAny_bind (wpAny_mono h' (fun _ l' rc=>wpAny_bind (wpAny_mono rc (fun ok bi wp=>?_) fun _ _ h'=>h'.elim)) fun _ _ h'=>h'.elim)
  cases ok with
  |false=>exact wpAny_pure ⟨rfl,wp⟩
  |true=>
   exact wpAny_bind (wpAny_bind (wpAny_mono wp (fun x u8 ww=>wpAny_bind (wpAny_mono ww (fun _ tz wv=>wpAny_pure (wpAny_pure ⟨rfl,wv⟩)) fun _ _ h'=>h'.elim)) fun _ _ h'=>h'.elim))
section
variable {K:PySem.W.Frag}{U Y:Mu}{H:Hp}
mutual
theorem Rp.shrink{d:PyData}{u:V}(sub:∀a,Y a=none->U a=none):Rp K Y H d u->Rp K U H d u
 |.none=>.none
 |.bool b=>.bool b
 |.int i=>.int i
 |.str x=>.str x
 |.list h n r=>.list h (sub _ n) (RpL.shrink sub r)
 |.tuple h r=>.tuple h (RpL.shrink sub r)
theorem RpL.shrink{ds:List PyData}{us:List V}(sub:∀a,Y a=none->U a=none):RpL K Y H ds us->RpL K U H ds us
 |.nil=>.nil
 |.cons h r=>.cons (Rp.shrink sub h) (RpL.shrink sub r)
end
end
theorem G6{X:Cx}{e:Expr}{td:DTE}(h:∀(pins:List (Addr×Obj)) (s:Shared) (Z:St) (H:Hp) (ρ:Rho) (U:Mu) (Qd:DK) (Q:VK),Inv X pins Z H s->St0 X.K H ρ U Z->td ρ U Qd ->
  (∀d u Y H',Ext X.K U H Y H'->St0 X.K H' ρ Y Z->RpD X.K Y H' d u->Qd d Y->Q u H')->wpAny (model X.prog X.w) X.A (eval e X.env) (EP X pins Z Q) X.xe s):DE X e td:=
 ⟨fun Z H Q=>∃ρ U Qd,St0 X.K H ρ U Z/\td ρ U Qd/\(∀d u Y H',Ext X.K U H Y H'->St0 X.K H' ρ Y Z->RpD X.K Y H' d u->Qd d Y->Q u H'),
  fun pins s Z H Q I ⟨ρ,U,Qd,S,q,k⟩=>h pins s Z H ρ U Qd Q I S q k,fun Z H ρ U Qd Q S q k=>⟨ρ,U,Qd,S,q,k⟩⟩
def bo(X:Cx)(N':List Str)(scope:Scope)(cl:List (Str×Addr))(fp:List Addr)(bi:Shared)(bv:Hp):Cx:=
 {X with N:=N',dL:=bi,H₀:=bv,env:=compEnvC scope cl bi.heap.objs.size X.env,outer:=X.stack,stack:=X.stack,ex:=fp,fn:=fun _=>false,pn:=X.pn,xe:=fun _ _=>False}
def Le:Rho->Rho->Prop
 |[],[]=>True
 |none::r,_::r'=>Le r r'
 |some d::r,some d'::r'=>d=d'/\Le r r'
 |_,_=>False
theorem Le.get:∀{ρ am:Rho},Le ρ am->ρ.length=am.length/\∀(i:Nat) d,ρ[i]? = some (some d)->am[i]? = some (some d)
 |[],[],_=>⟨rfl,fun _ _ h=>h⟩
 |none::r,x::r',h=>by
  obtain⟨h1,h2⟩:=Le.get (ρ:=r) (am:=r') h
  refine⟨congrArg (· + 1) h1,fun i d e=>?_⟩
  cases i with
  |zero=>simp at e
  |succ j=>exact h2 j d (by simpa using e)
 |some d::r,some d'::r',h=>by
  obtain⟨rfl,h⟩:=h
  obtain⟨h1,h2⟩:=Le.get (ρ:=r) (am:=r') h
  refine⟨congrArg (· + 1) h1,fun i d e=>?_⟩
  cases i with
  |zero=>simpa using e
  |succ j=>exact h2 j d (by simpa using e)
 |some d::r,none::r',h=>h.elim
 |[],_::_,h=>h.elim
 |none::_,[],h=>h.elim
 |some _::_,[],h=>h.elim
def cy{α:Type}(cap:List (Option Nat))(ρ:List (Option α)):List (Option α):=cap.map fun o=>o.bind fun j=>(ρ[j]?).join
noncomputable def KR(cap:List (Option Nat))(src:DTI)(g:DTG)(c:DTT)(elt:DTE):DTE:=fun ρ U Q=>src ρ U fun xs ac=>xs.length<=1000/\∃f:PyData->Option PyData,
 (∀x∈xs,∀Y:Mu,(∀a ds,ac a=some ds->Y a=some ds)->g (.v x) (cy cap ρ) Y fun db ad=>Le (cy cap ρ) db/\c db ad fun b ap=>
  if b=true then elt db ap fun d ce=>ce=Y/\(match d with|.v y=>f x=some y|_=>False) else ap=Y/\f x=none)/\Q (.v (.list (xs.filterMap f))) ac
noncomputable def Lj(X:Cx)(ifs:List Expr)(c:DTT):Prop:=∀(pins:List (Addr×Obj)) (s:Shared) (Z:St) (H:Hp) (ρ:Rho) (U:Mu) (Qd:Bool->Mu->Prop) (Q:Bool->Hp->Prop),Inv X pins Z H s->St0 X.K H ρ U Z->c ρ U Qd ->
 (∀b Y H',Ext X.K U H Y H'->St0 X.K H' ρ Y Z->Qd b Y->Q b H') ->
 wpAny (model X.prog X.w) X.A (forIn ifs true fun c r=>if r=true then do let ok <- isTrue c X.env (eval c X.env);pure (ForInStep.yield ok) else pure (ForInStep.yield r)) (TP X pins Z Q) X.xe s
noncomputable def jb:DTT:=fun _ U Q=>Q true U
theorem fz{X:Cx}:Lj X [] jb:=fun pins s Z H ρ U Qd Q I S h k=>wpAny_tests_nil ⟨H,I,k true U H .refl S h⟩
theorem tw{X:Cx}{c:Expr}{tc:DTT}(h:DT X c tc):Lj X [c] tc:=by
 obtain⟨t,p,l⟩:=h
 exact fun pins s Z H ρ U Qd Q I S h k=>wpAny_tests_one (p pins s Z H _ I (l Z H ρ U _ _ S h k))
theorem Un.after{fs ex:List Addr}{H H1:Hp}{h h1 h':Heap}(u:Un fs ex H H1 h h1)(k:∀b o,b<h.objs.size->h1.get? b=some o->h'.get? b=some o):Un fs ex H H1 h h':=
 ⟨fun b o e n hb hx=>k b o (Heap.lt_size e) (u.keep b o e n hb hx),fun b o e n hb hx=>let ⟨sl,q⟩:=u.slot b o e n hb hx;⟨sl,k b _ (Heap.lt_size e) q⟩,u.free,fun b o e hx=>let ⟨o',q⟩:=u.there b o e hx;⟨o',k b _ (Heap.lt_size e) q⟩,u.yk,u.xK,u.xJ⟩
theorem tP{α:Type}{cap:List (Option Nat)}{ρ:List (Option α)}{i:Nat}{d:α}(h:(cy cap ρ)[i]? = some (some d)):∃j,cap[i]? = some (some j)/\ρ[j]? = some (some d):=by
 unfold cy at h
 rw[getElem?_map] at h
 cases q:cap[i]? with
 |none=>rw[q] at h;cases h
 |some o=>
  rw[q] at h
  cases o with
  |none=>cases h
  |some j=>
   refine⟨j,rfl,?_⟩
   simp only[map_some,bind_some,Option.some.injEq] at h
   cases z:ρ[j]? with
   |none=>rw[z] at h;cases h
   |some y=>rw[z] at h;simp only[join_some] at h;rw[h]
theorem RA{α:Type}{cap:List (Option Nat)}{ρ:List (Option α)}{i j:Nat}{d:α}(h:cap[i]? = some (some j))(e:ρ[j]? = some (some d)):(cy cap ρ)[i]? = some (some d):=by
 unfold cy
 rw[getElem?_map,h]
 simp[e]
theorem gQ.cap{K:PySem.W.Frag}{U:Mu}{H:Hp}{ρ:Rho}{Z:St}{cap:List (Option Nat)}(r:gQ K U H ρ Z):gQ K U H (cy cap ρ) (cy cap Z):=by
 refine⟨by unfold cy;simp,fun i d e=>?_⟩
 obtain⟨j,h1,h2⟩:=tP e
 obtain⟨u,h3,h4⟩:=r.2 j d h2
 exact⟨u,RA h1 h3,h4⟩
theorem gQ.le{K:PySem.W.Frag}{U:Mu}{H:Hp}{ρ am:Rho}{Z:St}(r:gQ K U H am Z)(l:Le ρ am):gQ K U H ρ Z:=
 ⟨l.get.1.trans r.1,fun i d e=>r.2 i d (l.get.2 i d e)⟩
theorem DB{xs:List PyData}{f:PyData->Option PyData}{i:Nat}{d:PyData}(h:xs[i]? = some d):(xs.take (i+1)).filterMap f=(xs.take i).filterMap f++(f d).toList:=by
 obtain⟨hi,e⟩:=List.getElem?_eq_some_iff.mp h
 rw[List.take_succ_eq_append_getElem hi,List.filterMap_append,e]
 cases q:f d<;>simp[q]
theorem Jk{X:Cx}{N':List Str}{scope:Scope}{cl:List (Str×Addr)}{elt iter tg:Expr}{ifs:List Expr}{pos:Pos}{cap:List (Option Nat)}{src:DTI}{g:DTG}{c:DTT}{te:DTE}(hc:X.calm=X.calm)
  (hi:DI X tg iter src) (hg:∀fp bi bv,DG (bo X N' scope cl fp bi bv) tg g) (hif:∀fp bi bv,Lj (bo X N' scope cl fp bi bv) ifs c) (he:∀fp bi bv,DE (bo X N' scope cl fp bi bv) elt te)
  (hclos:closureFor scope X.env=pure cl) (hcell:∀y∈scope.names,y.2≠.cell) (hkind:scope.kind = .function) (hnames:∀y∈scope.names,y.2 = .local->scope.names.lookup y.1=some .local)
  (hcl:∀x a,cl.lookup x=some a->X.env.cells.lookup x=some a) (hhas:∀x,(relabel scope X.env).names.lookup x=some .cell\/(relabel scope X.env).names.lookup x=some .free->∃a,cl.lookup x=some a)
  (hlen:cap.length=N'.length) (hcap:∀(i j:Nat) (x:Str),cap[i]? = some (some j)->N'[i]? = some x->X.N[j]? = some x/\Vis X.env.scope x/\X.env.kindOf x≠some .local/\((relabel scope X.env).names.lookup x=some .cell\/(relabel scope X.env).names.lookup x=some .free))
  (hs:∀x,foldedSetIterable iter X.env x=pure x:=by intro _;rfl):DE X (.ListComp elt [⟨tg,iter,ifs,0⟩] scope pos) (KR cap src g c te):=by
 refine G6 fun pins s Z H ρ U Qd Q I S h k=>?_
 obtain⟨wi,pw,li⟩:=hi
 rw[eval_ListComp]
 refine wpAny_comprehension_free (use:=none) rfl hs hclos hkind hnames (thn (pw pins s Z H _ I (li Z H ρ U _ (fun J H1=>∃xs ac,Ext X.K U H ac H1/\St0 X.K H1 ρ ac Z/\PZ X.K J xs ac H1/\xs.length<=1000/\∃f:PyData->Option PyData,
   (∀x∈xs,∀Y:Mu,(∀a ds,ac a=some ds->Y a=some ds)->g (.v x) (cy cap ρ) Y fun db ad=>Le (cy cap ρ) db/\c db ad fun b ap=>
    if b=true then te db ap fun d ce=>ce=Y/\(match d with|.v y=>f x=some y|_=>False) else ap=Y/\f x=none)/\Qd (.v (.list (xs.filterMap f))) ac) S h (fun xs ac H1 J e1 S1 it q=>⟨xs,ac,e1,S1,it,q⟩)))
  fun v s1 h1=>thn h1 fun itv s2 h2=>?_)
 obtain⟨it,fp,tn,J,H2,rfl,I2,T,st2,f2,xs,ac,e1,S1,itok,hxs,f,body,fin⟩:=h2
 refine wpAny_newObj_type (wpAny_newFunctionEnv hcell (by intro y hy;simp at hy) (fun ii j' io=>?_) hkind)
 dsimp only at j' io ⊢
 have hfree2:H2 s2.heap.objs.size=none:=I2.hok.fresh (le_refl _)
 have hK2:X.K.lookup s2.heap.objs.size=none:=by
  cases z:X.K.lookup s2.heap.objs.size with
  |none=>rfl
  |some o=>exact absurd (Heap.lt_size (I2.kIn _ _ z)) (lt_irrefl _)
 have I3:Inv X pins Z (upd H2 s2.heap.objs.size (.lst [])) {s2 with heap:=s2.heap.push {cls:=.type "list",dict:=none,data:=.seq ([]:List Value).toArray}}:=
  I2.laid (t':=s2.toks) (fun b u e=>Heap.get?_push_of_some _ e) (le_refl _) ⟨zero_le _,[],0,.nil,Heap.get?_push_size _ rfl⟩
 generalize hH:s2.heap.push {cls:=.type "list",dict:=none,data:=.seq ([]:List Value).toArray} = hp3 at j' io I3 ⊢
 have hsz3:hp3.objs.size=s2.heap.objs.size+1:=by rw[<- hH,Heap.size_push]
 have kept3:∀b o,hp3.get? b=some o->ii.get? b=some o:=fun b o e=>io.extBut b o (ne_of_lt (Heap.lt_size e)) (Heap.get?_push_of_some _ e)
 have old3:∀b o,s2.heap.get? b=some o->hp3.get? b=some o:=fun b o e=>by rw[<- hH];exact Heap.get?_push_of_some _ e
 have fplt:∀b∈fp,b<s2.heap.objs.size:=fun b hb=>by obtain⟨o,e,_⟩:=T.obj 0 _ st2 b hb;exact Heap.lt_size e
 have fpst:∀b∈fp,b ∉ frs X.stack:=fun b hb hz=>by
  rcases List.mem_cons.mp (I2.rM b hz) with e|e
  ·exact (f2 b hb).2.1 e
  ·exact (f2 b hb).2.2.1 e
 obtain⟨s3,hs3⟩:∃s3:Shared,s3={s2 with heap:=hp3}:=⟨_,rfl⟩
 obtain⟨H3,hH3⟩:∃H3:Hp,H3=upd H2 s2.heap.objs.size (.lst []):=⟨_,rfl⟩
 have heap3:s3.heap=hp3:=by rw[hs3]
 rw[<- hH3] at I3
 have I3':Inv X pins Z H3 s3:=by rw[hs3];exact I3
 have hloc:H3 hp3.objs.size=none:=by have:=I3'.hok.fresh (a:=hp3.objs.size) (by rw[heap3];exact le_refl _);exact this
 have okc:(bo X N' scope cl fp s3 H3).Ok:=by
  refine⟨I3.ok.mod,?_,I3.ok.glob,I3.ok.blt,le_refl _,fun x y a h1 h2=>I3.ok.inj x y a (hcl x a h1) (hcl y a h2),fun x hx=>hhas x hx,fun x a h=>(nomatch h),I3.ok.hd,I3.ok.qt,I3.ok.frames,.inl rfl,fun b hb=>⟨?_,fun x a h=>(f2 b hb).2.2.2.2.1 x a (hcl x a h)⟩,
   I3'.bs,le_trans I3.ok.bsz I3'.sz,fun b o e hb=>?_,fun b hb=>fpst b hb,I3'.stack,I3'.xw⟩
  ·exact hkind
  ·show b≠s3.heap.objs.size
   rw[heap3,hsz3]
   exact ne_of_lt (lt_succ_of_lt (fplt b hb))
  ·rcases (f2 b hb).2.2.2.1 with z|z
   ·exact I3.ok.Ih b o e z
   ·exact absurd (lt_of_lt_of_le (Heap.lt_size (I3.ok.bs b o e).1) z) (lt_irrefl _)
 have I4:Inv (bo X N' scope cl fp s3 H3) [] (cy cap Z) H3 {s2 with heap:=ii,toks:=s2.toks+([]:List (Str×Value)).length}:=by
  refine⟨okc,by show s2.os=s3.os;rw[hs3],I3.bare,Un.kept (by show ∀b o,s3.heap.get? b=some o->_;rw[heap3];exact kept3),⟨_,(by show ii.Ns s3.heap.objs.size _;rw[heap3];exact j'),fun i x v e1 e2 e3=>?_⟩,fun x a h=>?_,(by show H3 s3.heap.objs.size=none;rw[heap3];exact hloc),fun x a h=>I3.lJ x a (hcl x a h),fun p hp=>?_,I3.hok.kept kept3,?_⟩
  ·obtain⟨j,h1,h2⟩:=tP e2
   obtain⟨hN,hv,hnl,hk⟩:=hcap i j x h1 e1
   obtain⟨m,_,hl⟩:=I3.loc
   obtain⟨u,r,lk⟩:=hl j x v hN h2 hv
   refine⟨u,r,.inr ⟨hk,?_⟩⟩
   obtain⟨a,ha⟩:=hhas x hk
   rcases lk with ⟨z,_⟩|⟨_,a',z1,z2⟩
   ·exact absurd z hnl
   ·have:a'=a:=by have q:=hcl x a ha;rw[z1] at q;exact Option.some.inj q
    subst this
    obtain⟨o,ho,hd⟩:=z2
    exact⟨a',ha,o,kept3 _ _ ho,hd⟩
  ·obtain⟨v,o,ho,hd⟩:=I3.cell x a (hcl x a h)
   exact⟨v,o,kept3 _ _ ho,hd⟩
  ·have hp':p∈X.pn++pins:=mem_append_left _ (by simpa using (show p∈X.pn++[] from hp))
   obtain⟨z1,z2,z3,z4,z5⟩:=I3'.pin p hp'
   refine⟨kept3 _ _ (by rw[<- heap3];exact z1),z2,(show p.1≠s3.heap.objs.size from ne_of_lt (Heap.lt_size z1)),fun z=>?_,z5⟩
   rcases List.mem_cons.mp (I3'.rM p.1 z) with e|e
   ·exact z3 e
   ·exact z4 e
  ·show (cy cap Z).length=N'.length
   unfold cy
   rw[length_map]
   exact hlen
 have ln:ac s2.heap.objs.size=none:=S1.mu.free hfree2
 have sub1:∀ys a ds,ac a=some ds->aR ac s2.heap.objs.size ys a=some ds:=fun ys a ds e=>by
  have:a≠s2.heap.objs.size:=fun z=>by rw[z,ln] at e;cases e
  rw[bR this];exact e
 have loop:codeAny (model X.prog X.w) X.A (.compLoop (.ListComp elt [⟨tg,iter,ifs,0⟩] scope pos) 0 (.ref it) (.ref s2.heap.objs.size) (bo X N' scope cl fp s3 H3).env)
   (compPost (model X.prog X.w) X.A X.xe none (EP X pins Z Q) (.ref s2.heap.objs.size) hp3.objs.size) {s2 with heap:=ii,toks:=s2.toks+([]:List (Str×Value)).length}:=by
  refine g9 (fun n s'=>∃(i:Nat) (dl:St) (Hc:Hp),n=xs.length-i/\i<=xs.length/\Inv (bo X N' scope cl fp s3 H3) [] dl Hc s'/\tn i s'.heap/\(∀b∈fp,Hc b=none) /\
   St0 X.K Hc (cy cap ρ) (aR ac s2.heap.objs.size ((xs.take i).filterMap f)) dl/\Ext X.K ac H2 (aR ac s2.heap.objs.size ((xs.take i).filterMap f)) Hc) ?_ xs.length
   ⟨0,cy cap Z,H3,by simp,zero_le _,I4,T.keep 0 _ _ st2 (fun b hb o e=>kept3 b o (old3 b o e)),fun b hb=>?_,?_,?_⟩
  ·rintro n s' ⟨i,dl,Hc,rfl,hi,Ic,tc,frc,Sc,Ec⟩
   have stat:∀{Hd:Hp},(∀b∈fp,Hd b=none)->∀b∈fp,C6 (bo X N' scope cl fp s3 H3) [] Hd b:=fun hn b hb=>
    ⟨hn b hb,(okc.exf b hb).1,fpst b hb,.inl hb,fun x a h=>(okc.exf b hb).2 x a h,fun p hp=>(f2 b hb).2.2.2.2.2 p (mem_append_left _ (by simpa using (show p∈X.pn++[] from hp)))⟩
   obtain⟨go,stop⟩:=itok _ Hc Ec Sc.mu i
   by_cases hlt:i<xs.length
   ·obtain⟨g1,y1⟩:=go hlt
    refine thn (T.item (bo X N' scope cl fp s3 H3) rfl rfl rfl (fun z=>z) i [] s' dl Hc (fun _ _=>False) Ic (stat frc) tc g1) fun r s4 ⟨u,hr,h4⟩=>?_
    subst hr
    refine thn h4 fun _ s5 ⟨x,H5,I5,r5,y5,st5,fr5⟩=>?_
    obtain⟨d,hd,sm,rd⟩:=y1 x H5 y5
    have I5':=I5.pinned (stat fr5) (T.obj _ _ st5)
    have e5:Ext X.K _ Hc _ H5:=.of_same (U:=aR ac s2.heap.objs.size ((xs.take i).filterMap f)) sm
    have S5:St0 X.K H5 (cy cap ρ) (aR ac s2.heap.objs.size ((xs.take i).filterMap f)) dl:=⟨Sc.mu.PD e5 sm,Sc.rho.ext Sc.mu e5⟩
    obtain⟨gt,pg,lg⟩:=hg fp s3 H3
    have hmem:d∈xs:=mem_of_getElem? hd
    refine thn (pg _ s5 dl H5 x u (fun al H'=>∃am Y,Ext X.K (aR ac s2.heap.objs.size ((xs.take i).filterMap f)) H5 Y H'/\St0 X.K H' am Y al/\Le (cy cap ρ) am/\c am Y fun b ap=>
      if b=true then te am ap fun d' ce=>ce=aR ac s2.heap.objs.size ((xs.take i).filterMap f)/\(match d' with|.v y=>f d=some y|_=>False) else ap=aR ac s2.heap.objs.size ((xs.take i).filterMap f)/\f d=none) I5' r5
     (lg dl H5 (cy cap ρ) _ (.v d) x _ _ S5 rd (body d hmem _ (sub1 _)) fun al am Y H' e' S' q=>⟨am,Y,e',S',q⟩)) fun _ s6 ⟨gV,H6,I6,ld,lf,e6,S6,le6,q6⟩=>?_
    refine thn (hif fp s3 H3 _ s6 gV H6 ld lf _ (fun b H'=>∃Y,Ext X.K lf H6 Y H'/\St0 X.K H' ld Y gV/\if b=true then te ld Y fun d' ce=>ce=aR ac s2.heap.objs.size ((xs.take i).filterMap f)/\(match d' with|.v y=>f d=some y|_=>False) else Y=aR ac s2.heap.objs.size ((xs.take i).filterMap f)/\f d=none)
     I6 S6 q6 fun b Y H' e' S' q=>⟨Y,e',S',q⟩) fun b s7 ⟨H7,I7,kw,e7,S7,q7⟩=>?_
    have again:∀{H9:Hp} {s9:Shared},Inv (bo X N' scope cl fp s3 H3) ([]++vK fp s5.heap) gV H9 s9->dj X.K (aR ac s2.heap.objs.size ((xs.take (i+1)).filterMap f)) H9->gQ X.K (aR ac s2.heap.objs.size ((xs.take (i+1)).filterMap f)) H9 (cy cap ρ) gV ->
      Ext X.K ac H2 (aR ac s2.heap.objs.size ((xs.take (i+1)).filterMap f)) H9->∃m,m<xs.length-i/\∃(i:Nat) (dl:St) (Hc:Hp),m=xs.length-i/\i<=xs.length/\Inv (bo X N' scope cl fp s3 H3) [] dl Hc s9/\tn i s9.heap/\(∀b∈fp,Hc b=none) /\
       St0 X.K Hc (cy cap ρ) (aR ac s2.heap.objs.size ((xs.take i).filterMap f)) dl/\Ext X.K ac H2 (aR ac s2.heap.objs.size ((xs.take i).filterMap f)) Hc:=fun {H9 s9} I9 m9 r9 e9=>by
     refine⟨xs.length-(i+1),∅,i+1,gV,H9,rfl,hlt,I9.nY,T.keep _ _ _ st5 fun b hb o e=>(I9.pin (b,o) (mem_append_right _ (mem_append_right _ (eP hb e)))).1,fun b hb=>?_,⟨m9,r9⟩,e9⟩
     obtain⟨o,e,_⟩:=T.obj _ _ st5 b hb
     exact (I9.pin (b,o) (mem_append_right _ (mem_append_right _ (eP hb e)))).2.1
    cases b with
    |false=>
     have q8:kw=aR ac s2.heap.objs.size ((xs.take i).filterMap f)/\f d=none:=by simpa using q7
     refine Df ?_
     have et:(xs.take (i+1)).filterMap f=(xs.take i).filterMap f:=by rw[DB hd,q8.2];simp
     have sK:aR ac s2.heap.objs.size ((xs.take (i+1)).filterMap f)=kw:=by rw[et,q8.1]
     refine again I7 (by rw[sK];exact S7.mu) (by rw[sK];exact S7.rho.le le6) ?_
     rw[sK]
     exact Ec.trans (e5.trans (e6.trans e7))
    |true=>
     refine BX ?_
     obtain⟨t8,p8,l8⟩:=he fp s3 H3
     refine thn (p8 _ s7 gV H7 (fun v H'=>∃y,Ext X.K kw H7 (aR ac s2.heap.objs.size ((xs.take i).filterMap f)) H'/\St0 X.K H' ld (aR ac s2.heap.objs.size ((xs.take i).filterMap f)) gV/\Rp X.K (aR ac s2.heap.objs.size ((xs.take i).filterMap f)) H' y v/\f d=some y) I7
      (l8 gV H7 ld kw _ _ S7 (by simpa using q7) fun d' v jp H8 e8 S8 r8 q8=>?_)) fun v s8 ⟨v8,H8,I8,r8,y,e8,S8,ry,fy⟩=>?_
     ·obtain⟨rfl,q8⟩:=q8
      cases d' with
      |v y=>exact⟨y,e8,S8,r8,q8⟩
      |m _=>exact q8.elim
      |s _=>exact q8.elim
      |o _=>exact q8.elim
      |q _=>exact q8.elim
     ·obtain⟨us,hacc,rus⟩:=S8.mu s2.heap.objs.size _ bP
      have hle:((xs.take i).filterMap f).length<=1000:=le_trans (List.length_filterMap_le _ _) (le_trans (by rw[length_take];exact Nat.min_le_right _ _) hxs)
      refine thn (sr (X:=bo X N' scope cl fp s3 H3) _ s8 gV H8 (.ref s2.heap.objs.size) [v8] (.ref s2.heap.objs.size) [v] (fun _ H'=>H'=upd H8 s2.heap.objs.size (.lst (us++[v8]))) I8 rfl (.cons r8 .nil) ⟨_,us,v8,rfl,rfl,hacc,by rw[<- rus.length];exact gm hle,rfl⟩) fun _ s9 ⟨_,H9,I9,_,e9⟩=>?_
      subst e9
      have et:(xs.take (i+1)).filterMap f=(xs.take i).filterMap f++[y]:=by rw[DB hd,fy];rfl
      have mset:aR (aR ac s2.heap.objs.size ((xs.take i).filterMap f)) s2.heap.objs.size ((xs.take (i+1)).filterMap f)=aR ac s2.heap.objs.size ((xs.take (i+1)).filterMap f):=pL
      have ex:Ext X.K (aR ac s2.heap.objs.size ((xs.take i).filterMap f)) H8 (aR ac s2.heap.objs.size ((xs.take (i+1)).filterMap f)) (upd H8 s2.heap.objs.size (.lst (us++[v8]))):=by
       rw[<- mset]
       exact pB bP
      refine again I9 ?_ ((S8.rho.le le6).ext S8.mu ex) (Ec.trans (e5.trans (e6.trans (e7.trans (e8.trans ex)))))
      rw[<- mset]
      refine S8.mu.set bP ?_
      rw[et]
      exact rus.append (.cons ry .nil)
   ·have ei:i=xs.length:=by omega
    subst ei
    refine thn (T.done (bo X N' scope cl fp s3 H3) rfl rfl rfl (fun z=>z) _ [] s' dl Hc (fun _ _=>False) Ic (stat frc) tc (stop rfl)) fun r s4 ⟨hr,I5⟩=>?_
    subst hr
    rw[take_length] at Sc Ec
    obtain⟨m,hn,_⟩:=I5.loc
    refine⟨m,(by have z:s4.heap.Ns s3.heap.objs.size m:=hn;rw[heap3] at z;exact z),fun h' hs'=>?_⟩
    have kp:∀b o,b<s2.heap.objs.size->s4.heap.get? b=some o->h'.get? b=some o:=fun b o hb e=>hs'.extBut b o (by rw[hsz3];exact ne_of_lt (lt_succ_of_lt hb)) e
    have hcC:Hc hp3.objs.size=none:=by have z:Hc s3.heap.objs.size=none:=I5.free;rw[heap3] at z;exact z
    have hok':HOk X.prog X.w Hc h':=fun b ob e=>by
     refine (I5.hok b ob e).Bi (fun cc v hcc q=>hs'.extBut cc v ?_ q) (fun _ q=>q) fun _ _ q=>q
     rintro rfl
     rcases hcc with z|z
     ·rw[<- z,hcC] at e;cases e
     ·rw[hcC] at z;cases z
    have u1:Un (frs X.stack) fp H2 H3 s2.heap s3.heap:=by rw[heap3,hH3];exact Un.laid old3 (le_refl _) hfree2
    have u2:Un (frs X.stack) fp H3 Hc s3.heap s4.heap:=I5.base
    have If:Inv X pins Z Hc {s4 with heap:=h'}:=I2.DU (ch:=fp) (by show s4.os=s2.os;have z:s4.os=s3.os:=I5.os;rw[z,hs3]) (Un.after (u1.trans u2) kp) hok' I5.bare fun b hb=>⟨(f2 b hb).2.2.2.1,(f2 b hb).2.1,(f2 b hb).2.2.2.2.1,(f2 b hb).2.2.2.2.2⟩
    obtain⟨us,hacc,rus⟩:=Sc.mu s2.heap.objs.size _ bP
    have shr:∀a,aR ac s2.heap.objs.size (xs.filterMap f) a=none->ac a=none:=fun a e=>by
     by_cases ha:a=s2.heap.objs.size
     ·rw[ha];exact ln
     ·rw[bR ha] at e;exact e
    have eF:Ext X.K ac H2 ac Hc:=⟨Ec.keep,Ec.tb,fun _ ds q=>⟨ds,q⟩,fun _ q _=>q⟩
    have mF:dj X.K ac Hc:=⟨fun a ds q=>by
     obtain⟨ys,z1,z2⟩:=Sc.mu a ds (sub1 _ a ds q)
     exact⟨ys,z1,z2.shrink shr⟩,Sc.mu.tab⟩
    exact⟨.ref s2.heap.objs.size,Hc,If,rfl,k (.v (.list (xs.filterMap f))) _ ac Hc (e1.trans eF) ⟨mF,S1.rho.ext S1.mu eF⟩ (Rp.list hacc ln (rus.shrink shr)) fin⟩
  ·have z:b≠s2.heap.objs.size:=ne_of_lt (fplt b hb)
   rw[hH3,cw z]
   exact (f2 b hb).1
  ·have ex:=nJ (o:=.lst []) (ds:=[]) S1.mu hfree2 hK2
   rw[hH3]
   exact⟨S1.mu.mut .nil hfree2 hK2,(S1.rho.ext S1.mu ex).cap⟩
  ·rw[hH3]
   exact nJ (o:=.lst []) (ds:=[]) S1.mu hfree2 hK2
 have envE:(bo X N' scope cl fp s3 H3).env=compEnvC scope cl hp3.objs.size X.env:=by show compEnvC scope cl s3.heap.objs.size X.env=_;rw[heap3]
 rw[envE] at loop
 exact codeAny_compStart_list loop (T.self X.A 0 _ _ _ (T.keep 0 _ _ st2 (fun b hb o e=>kept3 b o (old3 b o e))) loop)
section
variable {X:Cx}{a b c:Expr}{ta tb tc:DTE}{pos:Pos}
noncomputable def yW(r r':D->D->Mu->DK->Prop)(ta tb tc:DTE):DTE:=fun ρ U Q=>ta ρ U fun x ac=>tb ρ ac fun y ad=>r x y ad fun z ap=>match z with
 |.v (.bool k)=>if k=true then tc ρ ap fun w ce=>r' y w ce Q else Q (.v (.bool false)) ap
 |_=>False
theorem Lh{op op':CmpOp}{rr rr':R2}{r r':D->D->Mu->DK->Prop}(ho:OpR X (compareOp op) rr)(lo:lK X.K rr r)(ho':OpR X (compareOp op') rr')(lo':lK X.K rr' r')(ha:DE X a ta)(hb:DE X b tb)(hc:DE X c tc)
  (hm:lastMarks [op,op'] [b,c]=false:=by with_unfolding_all rfl):DE X (.Compare a [op,op'] [b,c] pos) (yW r r' ta tb tc):=by
 obtain⟨t1,p1,l1⟩:=ha
 obtain⟨t2,p2,l2⟩:=hb
 obtain⟨t3,p3,l3⟩:=hc
 refine⟨_,QZ ho ho' p1 p2 p3 hm,fun Z H ρ U Qd Q S h k=>?_⟩
 refine l1 Z H ρ U _ _ S h fun x ux ac H1 e1 S1 rx h1=>?_
 refine l2 Z H1 ρ ac _ _ S1 h1 fun y uy ad H2 e2 S2 ry h2=>?_
 refine lo x y ux uy H2 ad _ _ S2.mu (rx.ext S1.mu e2) ry h2 fun z uz ap H3 e3 ok3 rz h3=>?_
 have S3:St0 X.K H3 ρ ap Z:=⟨ok3,S2.rho.ext S2.mu e3⟩
 split at h3
 ·rename_i kk
  cases rz
  refine⟨kk,rfl,?_⟩
  cases kk with
  |true=>
   refine BX ?_
   refine l3 Z H3 ρ ap _ _ S3 (by simpa using h3) fun w uw ce H4 e4 S4 rw' h4=>?_
   exact lo' y w uy uw H4 ce _ _ S4.mu ((ry.ext S2.mu e3).ext S3.mu e4) rw' h4 fun d u Y H' e5 ok r q=>k d u Y H' (e1.trans (e2.trans (e3.trans (e4.trans e5)))) ⟨ok,S4.rho.ext S4.mu e5⟩ r q
  |false=>exact Df (k (.v (.bool false)) _ ap H3 (e1.trans (e2.trans e3)) S3 (Rp.bool false) (by simpa using h3))
 ·exact h3.elim
end
theorem FA{α:Type}{x:α}{xs:List α}:atI (x::xs) 0=some x:=by unfold atI ixN;simp
theorem HA{α:Type}{x y:α}{xs:List α}:atI (x::y::xs) 1=some y:=by
 have h:=zu (xs:=x::y::xs) (j:=1) (v:=y) rfl
 exact h
theorem Ll{α:Type}{x y z:α}{xs:List α}:atI (x::y::z::xs) 2=some z:=by
 have h:=zu (xs:=x::y::z::xs) (j:=2) (v:=z) rfl
 exact h
theorem N8{α:Type}{x y z u:α}{xs:List α}:atI (x::y::z::u::xs) 3=some u:=by
 have h:=zu (xs:=x::y::z::u::xs) (j:=3) (v:=u) rfl
 exact h
def ij:D->D->Mu->DK->Prop:=fun x y U Q=>match x,y with
 |.v (.int i),.v (.int j)=>Q (.v (.int (i+j))) U
 |.v (.tuple xs),.v (.tuple ys)=>xs.length+ys.length<=1000/\Q (.v (.tuple (xs++ys))) U
 |_,_=>N1 x y U Q
theorem UE{K:PySem.W.Frag}:lK K (fun x y H Q=>(rI0 fun i j=>.int (i+j)) x y H Q\/((M4 K) x y H Q\/Vp x y H Q)) ij:=by
 intro x y ux uy H U Qd Q ok rx ry h k
 unfold ij at h
 split at h
 ·exact .inl (Ou (K:=K) (gd:=fun i j=>.int (i+j)) (fun _ _ _ _=>.int _) _ _ ux uy H U Qd Q ok rx ry h k)
 ·exact .inr (.inl (Sm _ _ ux uy H U Qd Q ok rx ry h k))
 ·exact .inr (.inr (Vs _ _ ux uy H U Qd Q ok rx ry h k))
theorem fH{X:Cx}{a b:Expr}{ta tb:DTE}{pos:Pos}(ha:DE X a ta)(hb:DE X b tb):DE X (.BinOp a .Add b pos) (dOp ij ta tb):=Cn (Ri.or (RB.or Wa)) UE ha hb
section
variable {ρ:Rho}{U:Mu}{Q:DK}{QT:Bool->Mu->Prop}{QA:List D->Mu->Prop}{QG:Rho->Mu->Prop}{QI:List PyData->Mu->Prop}{QO:Option Int->Mu->Prop}{Dd:wV}{ta tb tc:DTE}{t u:DTT}{tA:DTA}{s1 s2:DTS}{i j:Int}{x y:PyData}{xs ys:List PyData}{d e:D}
noncomputable def Bq:DTS:=fun _ _ _=>False
theorem AO{X:Cx}{st:Stmt}:DS X st Bq:=⟨fun _ _ _=>False,fun _ _ _ _ _ _ h=>h.elim,fun _ _ _ _ _ _ _ h=>h.elim⟩
theorem x6{o:Rho}:ag 0 (some d::o) U Q=Q d U:=propext Iff.rfl
theorem yJ{a}{o:Rho}:ag 1 (a::some d::o) U Q=Q d U:=propext Iff.rfl
theorem A7{a b}{o:Rho}:ag 2 (a::b::some d::o) U Q=Q d U:=propext Iff.rfl
theorem wX{a b c}{o:Rho}:ag 3 (a::b::c::some d::o) U Q=Q d U:=propext Iff.rfl
theorem M6{a b c f}{o:Rho}:ag 4 (a::b::c::f::some d::o) U Q=Q d U:=propext Iff.rfl
theorem NA{a b c f g}{o:Rho}:ag 5 (a::b::c::f::g::some d::o) U Q=Q d U:=propext Iff.rfl
theorem Nx{a b c f g h}{o:Rho}:ag 6 (a::b::c::f::g::h::some d::o) U Q=Q d U:=propext Iff.rfl
theorem ND{a b c f g h k}{o:Rho}:ag 7 (a::b::c::f::g::h::k::some d::o) U Q=Q d U:=propext Iff.rfl
theorem L9{a b c f g h k l}{o:Rho}:ag 8 (a::b::c::f::g::h::k::l::some d::o) U Q=Q d U:=propext Iff.rfl
theorem Mt{a b c f g h k l m}{o:Rho}:ag 9 (a::b::c::f::g::h::k::l::m::some d::o) U Q=Q d U:=propext Iff.rfl
theorem q_c:dC x ρ U Q=Q (.v x) U:=propext Iff.rfl
theorem Mr{r}:dOp r ta tb ρ U Q=ta ρ U fun x ac=>tb ρ ac fun y ad=>r x y ad Q:=propext Iff.rfl
theorem q_B:dB ta ρ U QT=ta ρ U fun d ac=>match d with|.v (.bool k)=>QT k ac|_=>False:=propext Iff.rfl
theorem Vw{C:Int->Int->Prop}{g:Int->Int->PyData}:rII C g (.v (.int i)) (.v (.int j)) U Q=(C i j/\Q (.v (g i j)) U):=propext Iff.rfl
theorem Rk{g:Int->Int->PyData}:Gw g (.v (.int i)) (.v (.int j)) U Q=Q (.v (g i j)) U:=propext Iff.rfl
theorem Ro:Cc ta ρ U Q=ta ρ U fun x ac=>match x with|.v (.int i)=>Q (.v (.int (-i))) ac|_=>False:=propext Iff.rfl
theorem yj:lL t u ρ U QT=t ρ U fun c ac=>if c=true then u ρ ac QT else QT false ac:=propext Iff.rfl
theorem Ut:qL t u ρ U QT=t ρ U fun c ac=>if c=true then QT true ac else u ρ ac QT:=propext Iff.rfl
theorem MV:iQ t ρ U QT=t ρ U fun c ac=>QT (!c) ac:=propext Iff.rfl
theorem Rc:lN ta tb ρ U Q=ta ρ U fun x ac=>match x with|.v (.bool c)=>if c=true then tb ρ ac Q else Q (.v (.bool false)) ac|_=>False:=propext Iff.rfl
theorem Np:QD ta ρ U Q=ta ρ U fun x ac=>match x with|.v (.bool c)=>Q (.v (.bool (!c))) ac|_=>False:=propext Iff.rfl
theorem XR:dIf t ta tb ρ U Q=t ρ U fun c ac=>if c=true then ta ρ ac Q else tb ρ ac Q:=propext Iff.rfl
theorem kf:ai ρ U QA=QA [] U:=propext Iff.rfl
theorem gv:ae ta tA ρ U QA=ta ρ U fun x ac=>tA ρ ac fun xs ad=>QA (x::xs) ad:=propext Iff.rfl
theorem Cq:bj tA ρ U Q=tA ρ U fun ds ac=>match fh ds with|some xs=>Q (.v (.tuple xs)) ac|none=>False:=propext Iff.rfl
theorem CG:ff tA ρ U Q=tA ρ U fun ds ac=>match fh ds with|some xs=>Q (.v (.list xs)) ac|none=>False:=propext Iff.rfl
theorem L6:G8 tA ρ U Q=tA ρ U fun ds ac=>match fh ds with|some xs=>∀p,ac p=none->Q (.m p) (aR ac p xs)|none=>False:=propext Iff.rfl
theorem CS:fh []=some []:=by rw[fh]
theorem CQ{r:List D}:fh (.v x::r)=(fh r).map (x::·):=by rw[fh]
theorem RK{neg:Bool}:cW neg (.v x) (.v y) U Q=(SeqAt.shaped x=true/\SeqAt.shaped y=true/\Q (.v (.bool (neg ^^ PyData.eqv x y))) U):=propext Iff.rfl
theorem Ct{neg:Bool}:cW neg (.v (.int i)) (.v (.int j)) U Q=Q (.v (.bool (neg ^^ decide (i=j)))) U:=by
 have e:PyData.eqv (.int i) (.int j)=decide (i=j):=by simp[PyData.eqv];rfl
 rw[RK,e]
 exact propext ⟨fun h=>h.2.2,fun h=>⟨rfl,rfl,h⟩⟩
theorem RM{neg:Bool}:cW neg (.v (.list xs)) (.v (.list ys)) U Q=(SeqAt.shaped (.list xs)=true/\SeqAt.shaped (.list ys)=true/\Q (.v (.bool (neg ^^ PyData.eqv (.list xs) (.list ys)))) U):=propext Iff.rfl
theorem RG{neg:Bool}:OZ neg (.v x) (.v (.list ys)) U Q=(PyData.canLayAll0 ys=true/\x.canLay0=true/\PyData.depth x<=60/\Q (.v (.bool (neg ^^ ys.any fun b=>PyData.eqv b x))) U):=propext Iff.rfl
theorem D1:aI (.v (.list xs)) (.v (.int i)) U Q=(match atI xs i with|some d=>Q (.v d) U|none=>False):=propext Iff.rfl
theorem CH:aI (.v (.tuple xs)) (.v (.int i)) U Q=(match atI xs i with|some d=>Q (.v d) U|none=>False):=propext Iff.rfl
theorem Qh{l:Addr}:aI (.m l) (.v (.int i)) U Q=(match U l with|some xs=>(match atI xs i with|some d=>Q (.v d) U|none=>False)|none=>False):=propext Iff.rfl
theorem RY{ns:List Int}:aI (.s ns) (.v (.int i)) U Q=(match atI ns i with|some d=>Q (.v (.int d)) U|none=>False):=propext Iff.rfl
theorem wo:aI (.v (.list (x::xs))) (.v (.int 0)) U Q=Q (.v x) U:=by rw[D1,FA]
theorem Ib:aI (.v (.tuple (x::xs))) (.v (.int 0)) U Q=Q (.v x) U:=by rw[CH,FA]
theorem Mm{z}:aI (.v (.list (z::x::xs))) (.v (.int 1)) U Q=Q (.v x) U:=by rw[D1,HA]
theorem HF{z}:aI (.v (.tuple (z::x::xs))) (.v (.int 1)) U Q=Q (.v x) U:=by rw[CH,HA]
theorem MK{z w}:aI (.v (.list (z::w::x::xs))) (.v (.int 2)) U Q=Q (.v x) U:=by rw[D1,Ll]
theorem Je{z w}:aI (.v (.tuple (z::w::x::xs))) (.v (.int 2)) U Q=Q (.v x) U:=by rw[CH,Ll]
theorem Ng{z w v}:aI (.v (.tuple (z::w::v::x::xs))) (.v (.int 3)) U Q=Q (.v x) U:=by rw[CH,N8]
theorem Q0:N1 d e U Q=(match Av U d,Av U e with|some xs,some ys=>xs.length+ys.length<=1000/\Q (.v (.list (xs++ys))) U|_,_=>False):=propext Iff.rfl
theorem Mn:ij (.v (.int i)) (.v (.int j)) U Q=Q (.v (.int (i+j))) U:=propext Iff.rfl
theorem MX:ij (.v (.tuple xs)) (.v (.tuple ys)) U Q=(xs.length+ys.length<=1000/\Q (.v (.tuple (xs++ys))) U):=propext Iff.rfl
theorem Na:ij (.v (.list xs)) (.v (.list ys)) U Q=(xs.length+ys.length<=1000/\Q (.v (.list (xs++ys))) U):=propext Iff.rfl
theorem Vq{tl th:DTO}:dSl ta tl th ρ U Q=ta ρ U fun x ac=>tl ρ ac fun l ad=>th ρ ad fun u ap=>To x l u ap Q:=propext Iff.rfl
theorem DP:lu ρ U QO=QO none U:=propext Iff.rfl
theorem NF:tL ta ρ U QO=ta ρ U fun x ac=>match x with|.v (.int i)=>QO (some i) ac|_=>False:=propext Iff.rfl
theorem Q1{lo hi:Option Int}:To (.v (.tuple xs)) lo hi U Q=Q (.v (.tuple (oR xs lo hi))) U:=propext Iff.rfl
theorem Ke{rd}:dCB rd tA ρ U Q=tA ρ U fun ds ac=>rd ds ac Q:=propext Iff.rfl
theorem wa:cI [.v (.list ys)] U Q=Q (.v (.int (ys.length:Nat))) U:=propext Iff.rfl
theorem Mj:cI [.v (.tuple ys)] U Q=Q (.v (.int (ys.length:Nat))) U:=propext Iff.rfl
theorem NB{ns:List Int}:cI [.s ns] U Q=Q (.v (.int (ns.length:Nat))) U:=propext Iff.rfl
theorem Jt{l:Addr}:cI [.m l] U Q=(match U l with|some ys=>Q (.v (.int (ys.length:Nat))) U|none=>False):=propext Iff.rfl
theorem Rw:AK [.v (.int i)] U Q=Q (.v (.int (i.natAbs:Nat))) U:=propext Iff.rfl
theorem V7{g:Int->Int->Int}:K9 g [.v (.int i),.v (.int j)] U Q=Q (.v (.int (g i j))) U:=propext Iff.rfl
theorem Mp{k:Bool}:vk [.v (.bool k)] U Q=Q (.v (.int (if k then 1 else 0))) U:=propext Iff.rfl
theorem HD:oV [.v (.tuple ys)] U Q=Q (.v (.list ys)) U:=propext Iff.rfl
theorem Ol:CF [.v (.list ys)] U Q=(match eZ ys with|some bs=>Q (.v (.bool (bs.all id))) U|none=>False):=propext Iff.rfl
theorem Rx{T:String}:EO T ta ρ U Q=ta ρ U fun x ac=>match x with|.v d=>Q (.v (.bool (isT T d))) ac|_=>False:=propext Iff.rfl
theorem eW{n:Nat}:ar n d ρ U QG=QG (ρ.set n (some d)) U:=propext Iff.rfl
theorem H0:i7 [] ρ U QG=QG ρ U:=propext Iff.rfl
theorem Dq{g:DTG}{gs:Gj}:bS g gs (x::xs) ρ U QG=g (.v x) ρ U fun o0 ac=>gs xs o0 ac QG:=propext Iff.rfl
theorem JM{n:Nat}{gs:Gj}:iP n gs (.v (.tuple xs)) ρ U QG=(xs.length=n/\gs xs ρ U QG):=propext Iff.rfl
theorem ML:Ox ta tb d ρ U QG=ta ρ U fun o ac=>tb ρ ac fun i ad=>match o,i,d with
 |.m l,.v (.int k),.v x=>(match ad l with
  |some xs=>(match ixN xs.length k with
   |some j=>QG ρ (aR ad l (xs.set j x))
   |none=>False)
  |none=>False)
 |_,_,_=>False:=propext Iff.rfl
theorem Fe{g:DTG}:bJ ta g Dd ρ U=ta ρ U fun d ac=>g d ρ ac Dd.nx:=propext Iff.rfl
theorem Rz{i j:Nat}:LG i j tA Dd ρ U=tA ρ U fun ds ac=>match ds with|[v,w]=>Dd.nx ((ρ.set i (some v)).set j (some w)) ac|_=>False:=propext Iff.rfl
theorem MQ:cg Dd ρ U=Dd.nx ρ U:=propext Iff.rfl
theorem qF:aY s1 s2 Dd ρ U=s1 {Dd with nx:=s2 Dd} ρ U:=propext Iff.rfl
theorem CD:bM ta Dd ρ U=ta ρ U Dd.rt:=propext Iff.rfl
theorem Nu:kN ta Dd ρ U=ta ρ U fun _ ac=>Dd.nx ρ ac:=propext Iff.rfl
theorem D0:cZ t s1 s2 Dd ρ U=t ρ U fun b ac=>if b=true then s1 Dd ρ ac else s2 Dd ρ ac:=propext Iff.rfl
theorem Jy:Bq Dd ρ U=False:=propext Iff.rfl
theorem AY{dsp:DSp}:aB dsp tA ρ U Q=tA ρ U fun ds ac=>dsp ds ac Q:=propext Iff.rfl
theorem Qo:MD ta tb ρ U Q=ta ρ U fun x ac=>match x with
 |.m l=>tb ρ ac fun y ad=>(match y,ad l with
  |.v d,some xs=>xs.length<1000/\Q (.v .none) (aR ad l (xs++[d]))
  |_,_=>False)
 |_=>False:=propext Iff.rfl
theorem Ry:Yh ta tb ρ U Q=ta ρ U fun x ac=>match x with
 |.m l=>tb ρ ac fun y ad=>(match y,ad l with
  |.v (.list ys),some xs=>xs.length+ys.length<=1000/\Q (.v .none) (aR ad l (xs++ys))
  |_,_=>False)
 |_=>False:=propext Iff.rfl
theorem NQ{r r'}:yW r r' ta tb tc ρ U Q=ta ρ U fun x ac=>tb ρ ac fun y ad=>r x y ad fun z ap=>match z with
 |.v (.bool k)=>if k=true then tc ρ ap fun w ce=>r' y w ce Q else Q (.v (.bool false)) ap
 |_=>False:=propext Iff.rfl
theorem wd:jb ρ U QT=QT true U:=propext Iff.rfl
theorem zT:gb ta ρ U QI=ta ρ U fun d ac=>match d with|.v (.list xs)=>QI xs ac|_=>False:=propext Iff.rfl
theorem HN:D8 ta ρ U QI=ta ρ U fun d ac=>match d with|.v (.tuple xs)=>QI xs ac|_=>False:=propext Iff.rfl
theorem zQ:uB tA ρ U QI=tA ρ U fun ds ac=>match ds with|[.v (.int j)]=>(-(2 ^ 62)<=j/\j<2 ^ 62)/\QI (wG 0 j.toNat) ac|_=>False:=propext Iff.rfl
theorem Eo:Ma tA ρ U QI=tA ρ U fun ds ac=>match ds with|[.v (.int i),.v (.int j)]=>(-(2 ^ 62)<=i/\i<2 ^ 62/\-(2 ^ 62)<=j/\j<2 ^ 62)/\QI (wG i (j-i).toNat) ac|_=>False:=propext Iff.rfl
theorem EH{src:DTI}{g:DTG}:GR src g s1 Dd ρ U=src ρ U fun xs ac=>∃Pv:Nat->Rho->Mu->Prop,Pv 0 ρ ac /\
 (∀i x am Y,xs[i]? = some x->Pv i am Y->g (.v x) am Y fun db ad=>s1 {Dd with nx:=Pv (i+1),ct:=Pv (i+1),bk:=Dd.nx} db ad)/\(∀am Y,Pv xs.length am Y->Dd.nx am Y):=propext Iff.rfl
theorem II{cap:List (Option Nat)}{src:DTI}{g:DTG}:KR cap src g t ta ρ U Q=src ρ U fun xs ac=>xs.length<=1000/\∃f:PyData->Option PyData,
 (∀x∈xs,∀Y:Mu,(∀a ds,ac a=some ds->Y a=some ds)->g (.v x) (cy cap ρ) Y fun db ad=>Le (cy cap ρ) db/\t db ad fun b ap=>
  if b=true then ta db ap fun d ce=>ce=Y/\(match d with|.v y=>f x=some y|_=>False) else ap=Y/\f x=none)/\Q (.v (.list (xs.filterMap f))) ac:=propext Iff.rfl
theorem wx{α:Type}{r:List (Option α)}:cy [] r=[]:=rfl
theorem xh{α:Type}{o:Option Nat}{c:List (Option Nat)}{r:List (Option α)}:cy (o::c) r=(o.bind fun j=>(r[j]?).join)::cy c r:=rfl
theorem CL:Le [] []=True:=propext ⟨fun _=>trivial,fun h=>h⟩
theorem Ck{r r':Rho}{o:Option D}:Le (none::r) (o::r')=Le r r':=propext Iff.rfl
theorem Es{r r':Rho}{d d':D}:Le (some d::r) (some d'::r')=(d=d'/\Le r r'):=propext Iff.rfl
theorem w9{α:Type}(p:α->Bool):∀xs:List α,eZ (xs.map fun x=>PyData.bool (p x))=some (xs.map p)
 |[]=>rfl
 |x::r=>by rw[map_cons,eZ,w9 p r];rfl
theorem IH{α β:Type}(p:α->β):∀xs:List α,xs.filterMap (fun x=>some (p x))=xs.map p
 |[]=>rfl
 |x::r=>by rw[filterMap_cons,IH p r];rfl
theorem SY:FJ t s1 Dd ρ U=(∃W:Nat->Rho->Mu->Prop,(∃m,W m ρ U)/\∀m ρ U,W m ρ U ->
 t ρ U fun b ac=>if b=true then s1 {Dd with nx:=fun am Y=>∃m',m'<m/\W m' am Y,ct:=fun am Y=>∃m',m'<m/\W m' am Y,bk:=Dd.nx} ρ ac else Dd.nx ρ ac):=propext Iff.rfl
end
theorem RI{α β:Type}[BEq α][LawfulBEq α]{x:α}{k:β}:∀{l:List (α×β)},l.lookup x=some k->(x,k)∈l
 |[],h=>by cases h
 |(y,j)::r,h=>by
  rw[lookup_cons] at h
  cases e:x==y with
  |true=>
   rw[e] at h
   simp only[Option.some.injEq] at h
   have:x=y:=eq_of_beq e
   subst this h
   exact mem_cons_self
  |false=>
   rw[e] at h
   exact mem_cons_of_mem _ (RI h)
def cfK:NameKind->Bool
 |.cell=>true
 |.free=>true
 |_=>false
theorem cC{names:List (Str×NameKind)}{cl:List (Str×Addr)}(h:(names.all fun y=>!(cfK y.2) || (cl.lookup y.1).isSome)=true)(x:Str)(hx:names.lookup x=some .cell\/names.lookup x=some .free):∃a,cl.lookup x=some a:=by
 rw[all_eq_true] at h
 have key:∀k,cfK k=true->names.lookup x=some k->∃a,cl.lookup x=some a:=fun k hk e=>by
  have q:=h _ (RI e)
  simp only[hk,Bool.not_true,Bool.false_or] at q
  exact Option.isSome_iff_exists.mp q
 rcases hx with e|e
 ·exact key _ rfl e
 ·exact key _ rfl e
def QV(X:Cx)(sc:Scope):List (Option Nat)->List Str->Prop
 |none::c,_::n=>QV X sc c n
 |some j::c,x::n=>(X.N[j]? = some x/\Vis X.env.scope x/\X.env.kindOf x≠some .local/\((relabel sc X.env).names.lookup x=some .cell\/(relabel sc X.env).names.lookup x=some .free))/\QV X sc c n
 |_,_=>True
theorem eS{X:Cx}{sc:Scope}:∀{c:List (Option Nat)} {n:List Str},QV X sc c n->∀(i j:Nat) (x:Str),c[i]? = some (some j)->n[i]? = some x ->
  X.N[j]? = some x/\Vis X.env.scope x/\X.env.kindOf x≠some .local/\((relabel sc X.env).names.lookup x=some .cell\/(relabel sc X.env).names.lookup x=some .free)
 |[],_,_,i,j,x,h,_=>by simp at h
 |_::_,[],_,i,j,x,_,h=>by simp at h
 |none::c,y::n,k,0,j,x,h,_=>by simp at h
 |none::c,y::n,k,i+1,j,x,h,g=>eS (c:=c) (n:=n) k i j x (by simpa using h) (by simpa using g)
 |some l::c,y::n,k,0,j,x,h,g=>by
  simp only[getElem?_cons_zero,Option.some.injEq] at h g
  subst h g
  exact k.1
 |some l::c,y::n,k,i+1,j,x,h,g=>eS (c:=c) (n:=n) k.2 i j x (by simpa using h) (by simpa using g)
theorem BP{X:Cx}{sc:Scope}{j:Nat}{x:Str}(h1:X.N[j]? = some x:=by rfl)(h2:Vis X.env.scope x:=by first|exact Or.inl rfl|exact Or.inr (Or.inl rfl)|exact Or.inr (Or.inr rfl))(h3:X.env.kindOf x≠some .local:=by first|(intro z;cases z)|exact (fun z=>nomatch z))
  (h4:(relabel sc X.env).names.lookup x=some .cell\/(relabel sc X.env).names.lookup x=some .free:=by first|exact Or.inl rfl|exact Or.inr rfl):X.N[j]? = some x/\Vis X.env.scope x/\X.env.kindOf x≠some .local/\((relabel sc X.env).names.lookup x=some .cell\/(relabel sc X.env).names.lookup x=some .free):=⟨h1,h2,h3,h4⟩
def j4(U:Mu)(p:Addr):Mu:=fun b=>if b=p then none else U b
theorem sF{U:Mu}{p b:Addr}(h:b≠p):j4 U p b=U b:=by unfold j4;rw[if_neg h]
noncomputable def dJ(cap:List (Option Nat))(src:DTI)(g:DTG)(c:DTT)(elt:DTE):DTE:=fun ρ U Q=>src ρ U fun xs ac=>xs.length<=1000/\∀p,ac p=none->∃Pv:Nat->List PyData->Mu->Prop,Pv 0 [] (aR ac p []) /\
 (∀i x acc Y,xs[i]? = some x->Y p=some acc->Pv i acc Y->g (.v x) (cy cap ρ) Y fun db ad=>Le (cy cap ρ) db/\c db ad fun b ap=>
  if b=true then elt db ap fun d ce=>ce p=some acc/\(match d with|.v y=>Pv (i+1) (acc++[y]) (aR ce p (acc++[y]))|_=>False) else ap p=some acc/\Pv (i+1) acc ap) /\
 (∀acc Y,Pv xs.length acc Y->Y p=some acc->Q (.v (.list acc)) (j4 Y p))
theorem Ho{X:Cx}{pos2:Pos}{use:Option (Value->Sem Unit)}{QQ:Value->Shared->Prop}{pins:List (Addr×Obj)}{s:Shared}{Z:St}{H:Hp}{ρ:Rho}{U:Mu}{Qd:DK}{N':List Str}{scope:Scope}{cl:List (Str×Addr)}{elt iter tg:Expr}{ifs:List Expr}{pos:Pos}{cap:List (Option Nat)}{src:DTI}{g:DTG}{c:DTT}{te:DTE}(hc:X.calm=X.calm)
  (hi:DI X tg iter src) (hg:∀fp bi bv,DG (bo X N' scope cl fp bi bv) tg g) (hif:∀fp bi bv,Lj (bo X N' scope cl fp bi bv) ifs c) (he:∀fp bi bv,DE (bo X N' scope cl fp bi bv) elt te)
  (hclos:closureFor scope X.env=pure cl) (hcell:∀y∈scope.names,y.2≠.cell) (hkind:scope.kind = .function) (hnames:∀y∈scope.names,y.2 = .local->scope.names.lookup y.1=some .local)
  (hcl:∀x a,cl.lookup x=some a->X.env.cells.lookup x=some a) (hhas:∀x,(relabel scope X.env).names.lookup x=some .cell\/(relabel scope X.env).names.lookup x=some .free->∃a,cl.lookup x=some a)
  (hlen:cap.length=N'.length) (hcap:∀(i j:Nat) (x:Str),cap[i]? = some (some j)->N'[i]? = some x->X.N[j]? = some x/\Vis X.env.scope x/\X.env.kindOf x≠some .local/\((relabel scope X.env).names.lookup x=some .cell\/(relabel scope X.env).names.lookup x=some .free))
  (hs:∀x,foldedSetIterable iter X.env x=pure x )
  (I:Inv X pins Z H s) (S:St0 X.K H ρ U Z) (h:dJ cap src g c te ρ U Qd)
  (hend:∀(s4:Shared) (Hc:Hp) (C pa:Addr) (m:Str->Option Value) (acc:List PyData) (lv:Mu),s4.heap.Ns C m->C6 X pins Hc C->(∀h',Heap.SameBut C s4.heap h'->Inv X pins Z Hc {s4 with heap:=h'}) ->
   Ext X.K U H lv Hc->St0 X.K Hc ρ lv Z->Rp X.K lv Hc (.list acc) (.ref pa)->Qd (.v (.list acc)) lv->compPost (model X.prog X.w) X.A X.xe use QQ (.ref pa) C (.ok .next) s4) :
  wpAny (model X.prog X.w) X.A (comprehension (.ListComp elt [⟨tg,iter,ifs,0⟩] scope pos) scope X.env pos2 (newList []) false (eval iter X.env) use) QQ X.xe s:=by
 obtain⟨wi,pw,li⟩:=hi
 refine wpAny_comprehension_free rfl hs hclos hkind hnames (thn (pw pins s Z H _ I (li Z H ρ U _ (fun J H1=>∃xs ac,Ext X.K U H ac H1/\St0 X.K H1 ρ ac Z/\PZ X.K J xs ac H1/\xs.length<=1000/\∀p,ac p=none->∃Pv:Nat->List PyData->Mu->Prop,Pv 0 [] (aR ac p []) /\
   (∀i x acc Y,xs[i]? = some x->Y p=some acc->Pv i acc Y->g (.v x) (cy cap ρ) Y fun db ad=>Le (cy cap ρ) db/\c db ad fun b ap=>
    if b=true then te db ap fun d ce=>ce p=some acc/\(match d with|.v y=>Pv (i+1) (acc++[y]) (aR ce p (acc++[y]))|_=>False) else ap p=some acc/\Pv (i+1) acc ap) /\
   (∀acc Y,Pv xs.length acc Y->Y p=some acc->Qd (.v (.list acc)) (j4 Y p))) S h (fun xs ac H1 J e1 S1 it q=>⟨xs,ac,e1,S1,it,q⟩)))
  fun v s1 h1=>thn h1 fun itv s2 h2=>?_)
 obtain⟨it,fp,tn,J,H2,rfl,I2,T,st2,f2,xs,ac,e1,S1,itok,hxs,allp⟩:=h2
 refine wpAny_newObj_type (wpAny_newFunctionEnv hcell (by intro y hy;simp at hy) (fun ii j' io=>?_) hkind)
 dsimp only at j' io ⊢
 have hfree2:H2 s2.heap.objs.size=none:=I2.hok.fresh (le_refl _)
 have hK2:X.K.lookup s2.heap.objs.size=none:=by
  cases z:X.K.lookup s2.heap.objs.size with
  |none=>rfl
  |some o=>exact absurd (Heap.lt_size (I2.kIn _ _ z)) (lt_irrefl _)
 have I3:Inv X pins Z (upd H2 s2.heap.objs.size (.lst [])) {s2 with heap:=s2.heap.push {cls:=.type "list",dict:=none,data:=.seq ([]:List Value).toArray}}:=
  I2.laid (t':=s2.toks) (fun b u e=>Heap.get?_push_of_some _ e) (le_refl _) ⟨zero_le _,[],0,.nil,Heap.get?_push_size _ rfl⟩
 generalize hH:s2.heap.push {cls:=.type "list",dict:=none,data:=.seq ([]:List Value).toArray} = hp3 at j' io I3 ⊢
 have hsz3:hp3.objs.size=s2.heap.objs.size+1:=by rw[<- hH,Heap.size_push]
 have kept3:∀b o,hp3.get? b=some o->ii.get? b=some o:=fun b o e=>io.extBut b o (ne_of_lt (Heap.lt_size e)) (Heap.get?_push_of_some _ e)
 have old3:∀b o,s2.heap.get? b=some o->hp3.get? b=some o:=fun b o e=>by rw[<- hH];exact Heap.get?_push_of_some _ e
 have fplt:∀b∈fp,b<s2.heap.objs.size:=fun b hb=>by obtain⟨o,e,_⟩:=T.obj 0 _ st2 b hb;exact Heap.lt_size e
 have fpst:∀b∈fp,b ∉ frs X.stack:=fun b hb hz=>by
  rcases List.mem_cons.mp (I2.rM b hz) with e|e
  ·exact (f2 b hb).2.1 e
  ·exact (f2 b hb).2.2.1 e
 obtain⟨s3,hs3⟩:∃s3:Shared,s3={s2 with heap:=hp3}:=⟨_,rfl⟩
 obtain⟨H3,hH3⟩:∃H3:Hp,H3=upd H2 s2.heap.objs.size (.lst []):=⟨_,rfl⟩
 have heap3:s3.heap=hp3:=by rw[hs3]
 rw[<- hH3] at I3
 have I3':Inv X pins Z H3 s3:=by rw[hs3];exact I3
 have hloc:H3 hp3.objs.size=none:=by have:=I3'.hok.fresh (a:=hp3.objs.size) (by rw[heap3];exact le_refl _);exact this
 have okc:(bo X N' scope cl fp s3 H3).Ok:=by
  refine⟨I3.ok.mod,?_,I3.ok.glob,I3.ok.blt,le_refl _,fun x y a h1 h2=>I3.ok.inj x y a (hcl x a h1) (hcl y a h2),fun x hx=>hhas x hx,fun x a h=>(nomatch h),I3.ok.hd,I3.ok.qt,I3.ok.frames,.inl rfl,fun b hb=>⟨?_,fun x a h=>(f2 b hb).2.2.2.2.1 x a (hcl x a h)⟩,
   I3'.bs,le_trans I3.ok.bsz I3'.sz,fun b o e hb=>?_,fun b hb=>fpst b hb,I3'.stack,I3'.xw⟩
  ·exact hkind
  ·show b≠s3.heap.objs.size
   rw[heap3,hsz3]
   exact ne_of_lt (lt_succ_of_lt (fplt b hb))
  ·rcases (f2 b hb).2.2.2.1 with z|z
   ·exact I3.ok.Ih b o e z
   ·exact absurd (lt_of_lt_of_le (Heap.lt_size (I3.ok.bs b o e).1) z) (lt_irrefl _)
 have I4:Inv (bo X N' scope cl fp s3 H3) [] (cy cap Z) H3 {s2 with heap:=ii,toks:=s2.toks+([]:List (Str×Value)).length}:=by
  refine⟨okc,by show s2.os=s3.os;rw[hs3],I3.bare,Un.kept (by show ∀b o,s3.heap.get? b=some o->_;rw[heap3];exact kept3),⟨_,(by show ii.Ns s3.heap.objs.size _;rw[heap3];exact j'),fun i x v e1 e2 e3=>?_⟩,fun x a h=>?_,(by show H3 s3.heap.objs.size=none;rw[heap3];exact hloc),fun x a h=>I3.lJ x a (hcl x a h),fun p hp=>?_,I3.hok.kept kept3,?_⟩
  ·obtain⟨j,h1,h2⟩:=tP e2
   obtain⟨hN,hv,hnl,hk⟩:=hcap i j x h1 e1
   obtain⟨m,_,hl⟩:=I3.loc
   obtain⟨u,r,lk⟩:=hl j x v hN h2 hv
   refine⟨u,r,.inr ⟨hk,?_⟩⟩
   obtain⟨a,ha⟩:=hhas x hk
   rcases lk with ⟨z,_⟩|⟨_,a',z1,z2⟩
   ·exact absurd z hnl
   ·have:a'=a:=by have q:=hcl x a ha;rw[z1] at q;exact Option.some.inj q
    subst this
    obtain⟨o,ho,hd⟩:=z2
    exact⟨a',ha,o,kept3 _ _ ho,hd⟩
  ·obtain⟨v,o,ho,hd⟩:=I3.cell x a (hcl x a h)
   exact⟨v,o,kept3 _ _ ho,hd⟩
  ·have hp':p∈X.pn++pins:=mem_append_left _ (by simpa using (show p∈X.pn++[] from hp))
   obtain⟨z1,z2,z3,z4,z5⟩:=I3'.pin p hp'
   refine⟨kept3 _ _ (by rw[<- heap3];exact z1),z2,(show p.1≠s3.heap.objs.size from ne_of_lt (Heap.lt_size z1)),fun z=>?_,z5⟩
   rcases List.mem_cons.mp (I3'.rM p.1 z) with e|e
   ·exact z3 e
   ·exact z4 e
  ·show (cy cap Z).length=N'.length
   unfold cy
   rw[length_map]
   exact hlen
 have ln:ac s2.heap.objs.size=none:=S1.mu.free hfree2
 obtain⟨Pv,pv0,body,fin⟩:=allp s2.heap.objs.size ln
 have loop:codeAny (model X.prog X.w) X.A (.compLoop (.ListComp elt [⟨tg,iter,ifs,0⟩] scope pos) 0 (.ref it) (.ref s2.heap.objs.size) (bo X N' scope cl fp s3 H3).env)
   (compPost (model X.prog X.w) X.A X.xe use QQ (.ref s2.heap.objs.size) hp3.objs.size) {s2 with heap:=ii,toks:=s2.toks+([]:List (Str×Value)).length}:=by
  refine g9 (fun n s'=>∃(i:Nat) (dl:St) (Hc:Hp) (acc:List PyData) (gl:Mu),n=xs.length-i/\i<=xs.length/\Inv (bo X N' scope cl fp s3 H3) [] dl Hc s'/\tn i s'.heap/\(∀b∈fp,Hc b=none) /\
   acc.length<=i/\gl s2.heap.objs.size=some acc/\Pv i acc gl/\St0 X.K Hc (cy cap ρ) gl dl/\Ext X.K ac H2 gl Hc) ?_ xs.length
   ⟨0,cy cap Z,H3,[],aR ac s2.heap.objs.size [],by simp,zero_le _,I4,T.keep 0 _ _ st2 (fun b hb o e=>kept3 b o (old3 b o e)),fun b hb=>?_,le_refl _,bP,pv0,?_,?_⟩
  ·rintro n s' ⟨i,dl,Hc,acc,gl,rfl,hi,Ic,tc,frc,hal,hpa,pvi,Sc,Ec⟩
   have stat:∀{Hd:Hp},(∀b∈fp,Hd b=none)->∀b∈fp,C6 (bo X N' scope cl fp s3 H3) [] Hd b:=fun hn b hb=>
    ⟨hn b hb,(okc.exf b hb).1,fpst b hb,.inl hb,fun x a h=>(okc.exf b hb).2 x a h,fun p hp=>(f2 b hb).2.2.2.2.2 p (mem_append_left _ (by simpa using (show p∈X.pn++[] from hp)))⟩
   obtain⟨go,stop⟩:=itok _ Hc Ec Sc.mu i
   by_cases hlt:i<xs.length
   ·obtain⟨g1,y1⟩:=go hlt
    refine thn (T.item (bo X N' scope cl fp s3 H3) rfl rfl rfl (fun z=>z) i [] s' dl Hc (fun _ _=>False) Ic (stat frc) tc g1) fun r s4 ⟨u,hr,h4⟩=>?_
    subst hr
    refine thn h4 fun _ s5 ⟨x,H5,I5,r5,y5,st5,fr5⟩=>?_
    obtain⟨d,hd,sm,rd⟩:=y1 x H5 y5
    have I5':=I5.pinned (stat fr5) (T.obj _ _ st5)
    have e5:Ext X.K _ Hc _ H5:=.of_same (U:=gl) sm
    have S5:St0 X.K H5 (cy cap ρ) gl dl:=⟨Sc.mu.PD e5 sm,Sc.rho.ext Sc.mu e5⟩
    obtain⟨gt,pg,lg⟩:=hg fp s3 H3
    refine thn (pg _ s5 dl H5 x u (fun al H'=>∃am Y,Ext X.K gl H5 Y H'/\St0 X.K H' am Y al/\Le (cy cap ρ) am/\c am Y fun b ap=>
      if b=true then te am ap fun d' ce=>ce s2.heap.objs.size=some acc/\(match d' with|.v y=>Pv (i+1) (acc++[y]) (aR ce s2.heap.objs.size (acc++[y]))|_=>False) else ap s2.heap.objs.size=some acc/\Pv (i+1) acc ap) I5' r5
     (lg dl H5 (cy cap ρ) _ (.v d) x _ _ S5 rd (body i d acc gl hd hpa pvi) fun al am Y H' e' S' q=>⟨am,Y,e',S',q⟩)) fun _ s6 ⟨gV,H6,I6,ld,lf,e6,S6,le6,q6⟩=>?_
    refine thn (hif fp s3 H3 _ s6 gV H6 ld lf _ (fun b H'=>∃Y,Ext X.K lf H6 Y H'/\St0 X.K H' ld Y gV/\if b=true then te ld Y fun d' ce=>ce s2.heap.objs.size=some acc/\(match d' with|.v y=>Pv (i+1) (acc++[y]) (aR ce s2.heap.objs.size (acc++[y]))|_=>False) else Y s2.heap.objs.size=some acc/\Pv (i+1) acc Y)
     I6 S6 q6 fun b Y H' e' S' q=>⟨Y,e',S',q⟩) fun b s7 ⟨H7,I7,kw,e7,S7,q7⟩=>?_
    have again:∀{H9:Hp} {s9:Shared} {acc':List PyData} {ls:Mu},Inv (bo X N' scope cl fp s3 H3) ([]++vK fp s5.heap) gV H9 s9->acc'.length<=i+1->ls s2.heap.objs.size=some acc'->Pv (i+1) acc' ls->dj X.K ls H9->gQ X.K ls H9 (cy cap ρ) gV ->
      Ext X.K ac H2 ls H9->∃m,m<xs.length-i/\∃(i:Nat) (dl:St) (Hc:Hp) (acc:List PyData) (gl:Mu),m=xs.length-i/\i<=xs.length/\Inv (bo X N' scope cl fp s3 H3) [] dl Hc s9/\tn i s9.heap/\(∀b∈fp,Hc b=none) /\
       acc.length<=i/\gl s2.heap.objs.size=some acc/\Pv i acc gl/\St0 X.K Hc (cy cap ρ) gl dl/\Ext X.K ac H2 gl Hc:=fun {H9 s9 acc' ls} I9 l9 p9 v9 m9 r9 e9=>by
     refine⟨xs.length-(i+1),∅,i+1,gV,H9,acc',ls,rfl,hlt,I9.nY,T.keep _ _ _ st5 fun b hb o e=>(I9.pin (b,o) (mem_append_right _ (mem_append_right _ (eP hb e)))).1,fun b hb=>?_,l9,p9,v9,⟨m9,r9⟩,e9⟩
     obtain⟨o,e,_⟩:=T.obj _ _ st5 b hb
     exact (I9.pin (b,o) (mem_append_right _ (mem_append_right _ (eP hb e)))).2.1
    cases b with
    |false=>
     have q8:kw s2.heap.objs.size=some acc/\Pv (i+1) acc kw:=by simpa using q7
     refine Df ?_
     exact again I7 ∅ q8.1 q8.2 S7.mu (S7.rho.le le6) (Ec.trans (e5.trans (e6.trans e7)))
    |true=>
     refine BX ?_
     obtain⟨t8,p8,l8⟩:=he fp s3 H3
     refine thn (p8 _ s7 gV H7 (fun v H'=>∃y jp,Ext X.K kw H7 jp H'/\St0 X.K H' ld jp gV/\Rp X.K jp H' y v/\jp s2.heap.objs.size=some acc/\Pv (i+1) (acc++[y]) (aR jp s2.heap.objs.size (acc++[y]))) I7
      (l8 gV H7 ld kw _ _ S7 (by simpa using q7) fun d' v jp H8 e8 S8 r8 q8=>?_)) fun v s8 ⟨v8,H8,I8,r8,y,jp,e8,S8,ry,pa8,fy⟩=>?_
     ·obtain⟨q80,q8⟩:=q8
      cases d' with
      |v y=>exact⟨y,jp,e8,S8,r8,q80,q8⟩
      |m _=>exact q8.elim
      |s _=>exact q8.elim
      |o _=>exact q8.elim
      |q _=>exact q8.elim
     ·obtain⟨us,hacc,rus⟩:=S8.mu s2.heap.objs.size _ pa8
      have hle:acc.length<=1000:=by omega
      refine thn (sr (X:=bo X N' scope cl fp s3 H3) _ s8 gV H8 (.ref s2.heap.objs.size) [v8] (.ref s2.heap.objs.size) [v] (fun _ H'=>H'=upd H8 s2.heap.objs.size (.lst (us++[v8]))) I8 rfl (.cons r8 .nil) ⟨_,us,v8,rfl,rfl,hacc,by rw[<- rus.length];exact gm hle,rfl⟩) fun _ s9 ⟨_,H9,I9,_,e9⟩=>?_
      subst e9
      have ex:Ext X.K jp H8 (aR jp s2.heap.objs.size (acc++[y])) (upd H8 s2.heap.objs.size (.lst (us++[v8]))):=pB pa8
      exact again I9 (by rw[length_append,length_singleton];omega) bP fy (S8.mu.set pa8 (rus.append (.cons ry .nil))) ((S8.rho.le le6).ext S8.mu ex) (Ec.trans (e5.trans (e6.trans (e7.trans (e8.trans ex)))))
   ·have ei:i=xs.length:=by omega
    subst ei
    refine thn (T.done (bo X N' scope cl fp s3 H3) rfl rfl rfl (fun z=>z) _ [] s' dl Hc (fun _ _=>False) Ic (stat frc) tc (stop rfl)) fun r s4 ⟨hr,I5⟩=>?_
    subst hr
    obtain⟨m,hn,_⟩:=I5.loc
    have hcC:Hc hp3.objs.size=none:=by have z:Hc s3.heap.objs.size=none:=I5.free;rw[heap3] at z;exact z
    obtain⟨us,hacc,rus⟩:=Sc.mu s2.heap.objs.size _ hpa
    have shr:∀a,gl a=none->j4 gl s2.heap.objs.size a=none:=fun a e=>by
     unfold j4
     split
     ·rfl
     ·exact e
    have dne:∀a ds,j4 gl s2.heap.objs.size a=some ds->gl a=some ds:=fun a ds e=>by
     unfold j4 at e
     split at e
     ·cases e
     ·exact e
    have eF:Ext X.K ac H2 (j4 gl s2.heap.objs.size) Hc:=by
     refine⟨Ec.keep,Ec.tb,fun b ds q=>?_,fun b q z=>shr b (Ec.fresh b q z)⟩
     obtain⟨es,q2⟩:=Ec.dom b ds q
     have:b≠s2.heap.objs.size:=fun z=>by rw[z,ln] at q;cases q
     exact⟨es,by unfold j4;rw[if_neg this];exact q2⟩
    have mF:dj X.K (j4 gl s2.heap.objs.size) Hc:=⟨fun a ds q=>by
     obtain⟨ys,z1,z2⟩:=Sc.mu a ds (dne a ds q)
     exact⟨ys,z1,z2.shrink shr⟩,Sc.mu.tab⟩
    refine hend s4 Hc hp3.objs.size s2.heap.objs.size m acc (j4 gl s2.heap.objs.size) (by have z:s4.heap.Ns s3.heap.objs.size m:=hn;rw[heap3] at z;exact z) (I2.Q6 (by rw[hsz3];exact le_succ _) hcC) (fun h' hs'=>?_) (e1.trans eF) ⟨mF,S1.rho.ext S1.mu eF⟩ (Rp.list hacc (by unfold j4;rw[if_pos rfl]) (rus.shrink shr)) (fin acc gl pvi hpa)
    have kp:∀b o,b<s2.heap.objs.size->s4.heap.get? b=some o->h'.get? b=some o:=fun b o hb e=>hs'.extBut b o (by rw[hsz3];exact ne_of_lt (lt_succ_of_lt hb)) e
    have hok':HOk X.prog X.w Hc h':=fun b ob e=>by
     refine (I5.hok b ob e).Bi (fun cc v hcc q=>hs'.extBut cc v ?_ q) (fun _ q=>q) fun _ _ q=>q
     rintro rfl
     rcases hcc with z|z
     ·rw[<- z,hcC] at e;cases e
     ·rw[hcC] at z;cases z
    have u1:Un (frs X.stack) fp H2 H3 s2.heap s3.heap:=by rw[heap3,hH3];exact Un.laid old3 (le_refl _) hfree2
    have u2:Un (frs X.stack) fp H3 Hc s3.heap s4.heap:=I5.base
    exact I2.DU (ch:=fp) (by show s4.os=s2.os;have z:s4.os=s3.os:=I5.os;rw[z,hs3]) (Un.after (u1.trans u2) kp) hok' I5.bare fun b hb=>⟨(f2 b hb).2.2.2.1,(f2 b hb).2.1,(f2 b hb).2.2.2.2.1,(f2 b hb).2.2.2.2.2⟩
  ·have z:b≠s2.heap.objs.size:=ne_of_lt (fplt b hb)
   rw[hH3,cw z]
   exact (f2 b hb).1
  ·have ex:=nJ (o:=.lst []) (ds:=[]) S1.mu hfree2 hK2
   rw[hH3]
   exact⟨S1.mu.mut .nil hfree2 hK2,(S1.rho.ext S1.mu ex).cap⟩
  ·rw[hH3]
   exact nJ (o:=.lst []) (ds:=[]) S1.mu hfree2 hK2
 have envE:(bo X N' scope cl fp s3 H3).env=compEnvC scope cl hp3.objs.size X.env:=by show compEnvC scope cl s3.heap.objs.size X.env=_;rw[heap3]
 rw[envE] at loop
 exact codeAny_compStart_list loop (T.self X.A 0 _ _ _ (T.keep 0 _ _ st2 (fun b hb o e=>kept3 b o (old3 b o e))) loop)
theorem tO{X:Cx}{N':List Str}{scope:Scope}{cl:List (Str×Addr)}{elt iter tg:Expr}{ifs:List Expr}{pos:Pos}{cap:List (Option Nat)}{src:DTI}{g:DTG}{c:DTT}{te:DTE}(hc:X.calm=X.calm)
  (hi:DI X tg iter src) (hg:∀fp bi bv,DG (bo X N' scope cl fp bi bv) tg g) (hif:∀fp bi bv,Lj (bo X N' scope cl fp bi bv) ifs c) (he:∀fp bi bv,DE (bo X N' scope cl fp bi bv) elt te)
  (hclos:closureFor scope X.env=pure cl) (hcell:∀y∈scope.names,y.2≠.cell) (hkind:scope.kind = .function) (hnames:∀y∈scope.names,y.2 = .local->scope.names.lookup y.1=some .local)
  (hcl:∀x a,cl.lookup x=some a->X.env.cells.lookup x=some a) (hhas:∀x,(relabel scope X.env).names.lookup x=some .cell\/(relabel scope X.env).names.lookup x=some .free->∃a,cl.lookup x=some a)
  (hlen:cap.length=N'.length) (hcap:∀(i j:Nat) (x:Str),cap[i]? = some (some j)->N'[i]? = some x->X.N[j]? = some x/\Vis X.env.scope x/\X.env.kindOf x≠some .local/\((relabel scope X.env).names.lookup x=some .cell\/(relabel scope X.env).names.lookup x=some .free))
  (hs:∀x,foldedSetIterable iter X.env x=pure x:=by intro _;rfl):DE X (.ListComp elt [⟨tg,iter,ifs,0⟩] scope pos) (dJ cap src g c te):=by
 refine G6 fun pins s Z H ρ U Qd Q I S h k=>?_
 rw[eval_ListComp]
 refine Ho hc hi hg hif he hclos hcell hkind hnames hcl hhas hlen hcap hs I S h fun s4 Hc C pa m acc lv hn _ hI e1 S1 r q=>?_
 exact⟨m,hn,fun h' hs'=>⟨.ref pa,Hc,hI h' hs',rfl,k (.v (.list acc)) _ lv Hc e1 S1 r q⟩⟩
theorem ns_obj{h:Heap}{C:Addr}{m:Str->Option Value}(hn:h.Ns C m):∃o,h.get? C=some o/\∀v,o.data≠.cell v:=let ⟨o,es,ep,ho,hd,_⟩:=hn;⟨o,ho,fun v z=>by rw[hd] at z;cases z⟩
theorem SE{h h':Heap}{C:Addr}{m:Str->Option Value}(hn:h.Ns C m)(e:h'.get? C=h.get? C):h'.Ns C m:=let ⟨o,es,ep,ho,r⟩:=hn;⟨o,es,ep,e.trans ho,r⟩
theorem nU{X:Cx}{i:Nat}{x:Str}{pos' spos:Pos}{N':List Str}{scope:Scope}{cl:List (Str×Addr)}{elt iter tg:Expr}{ifs:List Expr}{pos:Pos}{cap:List (Option Nat)}{src:DTI}{g:DTG}{c:DTT}{te:DTE}(hN:X.N.Nodup)(hix:X.N[i]? = some x)(hx:X.env.scope.names.lookup x=some .local)(hc:X.calm=X.calm)
  (hi:DI X tg iter src) (hg:∀fp bi bv,DG (bo X N' scope cl fp bi bv) tg g) (hif:∀fp bi bv,Lj (bo X N' scope cl fp bi bv) ifs c) (he:∀fp bi bv,DE (bo X N' scope cl fp bi bv) elt te)
  (hclos:closureFor scope X.env=pure cl) (hcell:∀y∈scope.names,y.2≠.cell) (hkind:scope.kind = .function) (hnames:∀y∈scope.names,y.2 = .local->scope.names.lookup y.1=some .local)
  (hcl:∀x a,cl.lookup x=some a->X.env.cells.lookup x=some a) (hhas:∀x,(relabel scope X.env).names.lookup x=some .cell\/(relabel scope X.env).names.lookup x=some .free->∃a,cl.lookup x=some a)
  (hlen:cap.length=N'.length) (hcap:∀(i j:Nat) (x:Str),cap[i]? = some (some j)->N'[i]? = some x->X.N[j]? = some x/\Vis X.env.scope x/\X.env.kindOf x≠some .local/\((relabel scope X.env).names.lookup x=some .cell\/(relabel scope X.env).names.lookup x=some .free))
  (hs:∀x,foldedSetIterable iter X.env x=pure x:=by intro _;rfl)
  (hsw:swapsWith (.ListComp elt [⟨tg,iter,ifs,0⟩] scope pos) (some (.Name x pos')) spos.line X.env=pure true:=by rfl):DS X (.Assign [.Name x pos'] (.ListComp elt [⟨tg,iter,ifs,0⟩] scope pos) spos) (bJ (dJ cap src g c te) (ar i)):=by
 refine⟨fun D Z H=>∃ρ U Dd,St0 X.K H ρ U Z/\bJ (dJ cap src g c te) (ar i) Dd ρ U/\(∀al am Y H',Ext X.K U H Y H'->St0 X.K H' am Y al->Dd.nx am Y->D.nx al H'),?_,fun Z H ρ U Dd De S h k1 k2 k3 k4=>⟨ρ,U,Dd,S,h,k1⟩⟩
 rintro pins s Z H D I ⟨ρ,U,Dd,S,h,k1⟩
 rw[exec_Assign_Name_used _ _ _ _ hsw]
 refine wpAny_bind (wpAny_standAt ?_)
 show wpAny _ _ ((comprehension (.ListComp elt [⟨tg,iter,ifs,0⟩] scope pos) scope X.env (firstIterPos [⟨tg,iter,ifs,0⟩] pos) (newList []) false (eval iter X.env) (some (assign (.Name x pos') X.env))>>=fun _=>pure ())>>=_) _ _ s
 refine wpAny_bind (wpAny_bind (Ho (Qd:=fun d ac=>ar i d ρ ac Dd.nx) hc hi hg hif he hclos hcell hkind hnames hcl hhas hlen hcap hs I S h fun s4 Hc C pa m acc lv hn fC hI e1 S1 r q=>?_))
 have I4:Inv X pins Z Hc s4:=hI s4.heap (Heap.SameBut.refl _ _)
 obtain⟨oC,hoC,hdC⟩:∃o,s4.heap.get? C=some o/\∀v,o.data≠.cell v:=by
  obtain⟨o,h1,h2⟩:=ns_obj hn
  exact⟨o,h1,h2⟩
 have I5:=I4.pinned (fp:=[C]) (fun b hb=>by rw[List.mem_singleton.mp hb];exact fC) (fun b hb=>by rw[List.mem_singleton.mp hb];exact⟨oC,hoC,hdC⟩)
 show wpAny _ _ (assign (.Name x pos') X.env (.ref pa)) _ _ s4
 refine wpAny_assign_Name (qx I5 hN hix (Or.inl hx) (show RelV (.ref pa) (.ref pa) from rfl) (fun s' I'=>?_) (.inr hx))
 have keepC:s'.heap.get? C=some oC:=(I'.pin (C,oC) (mem_append_right _ (mem_append_right _ (eP (List.mem_singleton.mpr rfl) hoC)))).1
 have hn':s'.heap.Ns C m:=SE hn (by rw[keepC,hoC])
 refine⟨m,hn',fun h' hs'=>wpAny_pure (wpAny_pure ?_)⟩
 refine⟨Z.set i (some (.ref pa)),Hc,?_,k1 _ _ _ _ e1 ⟨S1.mu,S1.rho.set (d:=.v (.list acc)) r⟩ q⟩
 refine I'.nY.DU (ch:=[C]) rfl ⟨fun b o e n hb hx=>?_,fun b o e n hb hx=>?_,fun b o e n hx=>n,fun b o e hx=>?_,fun b xs e=>e,fun b o u e=>e,fun b ps e=>⟨#[],by rw[Array.append_empty];exact e⟩⟩ ?_ I'.bare fun b hb=>?_
 ·exact hs'.extBut b o (fun z=>hx (List.mem_singleton.mpr z)) e
 ·exact⟨o.slots,hs'.extBut b o (fun z=>hx (List.mem_singleton.mpr z)) e⟩
 ·exact⟨o,hs'.extBut b o (fun z=>hx (List.mem_singleton.mpr z)) e⟩
 ·exact fun b ob e=>by
   refine (I'.hok b ob e).Bi (fun cc v hcc q=>hs'.extBut cc v ?_ q) (fun _ q=>q) fun _ _ q=>q
   rintro rfl
   rcases hcc with z|z
   ·rw[<- z,fC.1] at e;cases e
   ·rw[fC.1] at z;cases z
 ·rw[List.mem_singleton.mp hb]
  exact⟨fC.2.2.2.1,fC.2.1,fC.2.2.2.2.1,fC.2.2.2.2.2⟩
theorem rE{cap:List (Option Nat)}{src:DTI}{g:DTG}{t:DTT}{ta:DTE}{ρ:Rho}{U:Mu}{Q:DK}:dJ cap src g t ta ρ U Q=src ρ U fun xs ac=>xs.length<=1000/\∀p,ac p=none->∃Pv:Nat->List PyData->Mu->Prop,Pv 0 [] (aR ac p []) /\
 (∀i x acc Y,xs[i]? = some x->Y p=some acc->Pv i acc Y->g (.v x) (cy cap ρ) Y fun db ad=>Le (cy cap ρ) db/\t db ad fun b ap=>
  if b=true then ta db ap fun d ce=>ce p=some acc/\(match d with|.v y=>Pv (i+1) (acc++[y]) (aR ce p (acc++[y]))|_=>False) else ap p=some acc/\Pv (i+1) acc ap) /\
 (∀acc Y,Pv xs.length acc Y->Y p=some acc->Q (.v (.list acc)) (j4 Y p)):=propext Iff.rfl
theorem xo{U:Mu}{p:Addr}{ds:List PyData}(h:U p=none):j4 (aR U p ds) p=U:=by
 funext b
 unfold j4 aR
 by_cases e:b=p
 ·rw[if_pos e,e,h]
 ·rw[if_neg e,if_neg e]
theorem VM{xs:List PyData}{f:PyData->Option PyData}{i:Nat}{d:PyData}(h:xs[i]? = some d):(xs.take (i+1)).filterMap f=(xs.take i).filterMap f++(f d).toList:=DB h
section
variable {X:Cx}{es:List Expr}{x1:Nat}{tpos:Pos}
def Sk:List PyData->List PyData->List PyData
 |x::xs,y::ys=>.tuple [x,y]::Sk xs ys
 |_,_=>[]
end
section
variable {X:Cx}{a b e:Expr}{es:List Expr}{ta tb te:DTE}{t:DTA}{p pos:Pos}
def qZ:List D->Mu->DK->Prop:=fun xs U Q=>match xs with
 |[.v (.list ys)]=>Q (.v (.tuple ys)) U
 |[.v (.tuple ys)]=>Q (.v (.tuple ys)) U
 |[.m l]=>(match U l with|some ys=>Q (.v (.tuple ys)) U|none=>False)
 |_=>False
theorem RC{K:PySem.W.Frag}:si K (fun xs H Q=>∃p ys,xs=[.ref p]/\((SqL K H p ys/\∀l,H l=none->Q (.ref l) (upd H l (.tup ys)))\/(SqT K H p ys/\Q (.ref p) H))) qZ:=by
 intro xs us H U Qd Q ok rs h k
 unfold qZ at h
 split at h
 ·cases rs with
  |cons r1 r2=>
   cases r2
   cases r1 with
   |list hs hn r=>exact⟨_,_,rfl,.inl ⟨SqL.of hs,fun l hl=>k (.v _) _ U _ (dZ hl) (ok.new hl) (mx ok r hl) h⟩⟩
 ·cases rs with
  |cons r1 r2=>
   cases r2
   cases id r1 with
   |tuple hs r=>exact⟨_,_,rfl,.inr ⟨hs,k (.v _) _ U H .refl ok r1 h⟩⟩
 ·cases rs with
  |cons r1 r2=>
   cases r2
   obtain⟨rfl,ds,hm⟩:=r1
   rw[hm] at h
   obtain⟨us,hl,r⟩:=ok _ ds hm
   exact⟨_,_,rfl,.inl ⟨SqL.of hl,fun l hl'=>k (.v _) _ U _ (dZ hl') (ok.new hl') (mx ok r hl') h⟩⟩
 ·exact h.elim
theorem Fo(hg:Gl X "tuple")(hm:X.mg "tuple"=none)(ha:DA X (e::es) t)
  (he:starEach (e::es) X.env=(false,eval e X.env)::starEach es X.env:=by rfl) (hpl:(backTo pos (starEach es X.env)).any (·.1)=false:=by rfl):DE X (.Call (.Name "tuple" p) (e::es) [] pos) (dCB qZ t):=
 A1 Gb RC hg hm PyProof.Rows.Boot.«tuple» ha ⋯ ⋯ he hpl
theorem Fg{ys:List PyData}{U:Mu}{Q:DK}:qZ [.v (.list ys)] U Q=Q (.v (.tuple ys)) U:=propext Iff.rfl
theorem Ex{l:Addr}{U:Mu}{Q:DK}:qZ [.m l] U Q=(match U l with|some ys=>Q (.v (.tuple ys)) U|none=>False):=propext Iff.rfl
theorem RpL.rep{K:PySem.W.Frag}{U:Mu}{H:Hp}{ds:List PyData}{us:List V}(r:RpL K U H ds us):∀n:Nat,RpL K U H (List.replicate n ds).flatten (List.replicate n us).flatten
 |0=>.nil
 |n+1=>by rw[replicate_succ,flatten_cons,replicate_succ,flatten_cons];exact r.append (RpL.rep r n)
end
theorem cl1{k:Str}{v:Addr}{r:List (Str×Addr)}{x:Str}{a:Addr}(h:List.lookup x [(k,v)]=some a):List.lookup x ((k,v)::r)=some a:=by
 simp only[lookup_cons] at h ⊢
 cases e:x==k with
 |true=>rw[e] at h;exact h
 |false=>rw[e] at h;exact absurd h (by simp)
theorem cl2{k k':Str}{v v':Addr}{r:List (Str×Addr)}{x:Str}{a:Addr}(n:(k==k')=false)(h:List.lookup x [(k,v)]=some a):List.lookup x ((k',v')::(k,v)::r)=some a:=by
 have g:=cl1 (r:=r) h
 simp only[lookup_cons] at h
 cases e:x==k with
 |true=>
  have e':x=k:=by simpa using e
  subst e'
  rw[lookup_cons,n]
  exact g
 |false=>rw[e] at h;exact absurd h (by simp)
section
variable {X:Cx}{e:Expr}{es:List Expr}{t:DTA}{p pos:Pos}
theorem Dp:∀{ns:List Int} {us:List Value},Vals (ns.map V.int) us->PyProof.Rows.IntsAre us ns
 |[],_,.nil=>.nil
 |n::r,_,.cons h t=>by obtain⟨tk,rfl⟩:=h;exact .cons n tk (Dp t)
theorem PK(hc:X.calm=true):n8 X (.builtin "sum") (fun xs H Q=>∃(p:Addr) (ns:List Int),xs=[.ref p]/\H p=some (.lst (ns.map V.int))/\Q (.int ns.sum) H):=by
 intro pins s Z H xs us Q I r h
 obtain⟨l,ns,rfl,hl,q⟩:=h
 obtain⟨u,rfl,rx⟩:=vals1 r
 cases rx
 obtain⟨its,rv,pl,_⟩:=I.list (SqL.of hl)
 have hi:=Dp rv
 have hL:=pl.isList
 obtain⟨xs,hx⟩:=hi.allInts.items
 have hn:numsOf its.toArray.toList=ns:=by rw[show its.toArray.toList=its from rfl,hi.numsOf]
 rw[hx] at hL hn
 rw[nums_intItems] at hn
 refine sum_intListG (I.ok.hd hc) hL fun h' tk t' hk=>?_
 rw[preSum_eq,List.take_of_length_le (by simp),hn]
 exact⟨.int ns.sum,H,I.kept hk,⟨_,rfl⟩,q⟩
def dz:List PyData->Option (List Int)
 |[]=>some []
 |.int b::r=>(dz r).map (b::·)
 |_::_=>none
theorem xu{K:PySem.W.Frag}{U:Mu}{H:Hp}:∀{xs:List PyData} {us:List V} {bs:List Int},RpL K U H xs us->dz xs=some bs->us=bs.map V.int
 |_,_,_,.nil,e=>by cases e;rfl
 |.int b::r,_,bs,.cons h t,e=>by
  simp only[dz] at e
  cases q:dz r with
  |none=>rw[q] at e;cases e
  |some cs=>rw[q] at e;cases e;cases h;rw[xu t q];rfl
 |.none::r,_,bs,.cons h t,e=>by simp[dz] at e
 |.bool _::r,_,bs,.cons h t,e=>by simp[dz] at e
 |.str _::r,_,bs,.cons h t,e=>by simp[dz] at e
 |.list _::r,_,bs,.cons h t,e=>by simp[dz] at e
 |.tuple _::r,_,bs,.cons h t,e=>by simp[dz] at e
 |.dict _::r,_,bs,.cons h t,e=>by simp[dz] at e
def DH:List D->Mu->DK->Prop:=fun xs U Q=>match xs with
 |[.v (.list ys)]=>(match dz ys with|some bs=>Q (.v (.int bs.sum)) U|none=>False)
 |_=>False
theorem Ux{K:PySem.W.Frag}:si K (fun xs H Q=>∃(p:Addr) (ns:List Int),xs=[.ref p]/\H p=some (.lst (ns.map V.int))/\Q (.int ns.sum) H) DH:=by
 intro xs us H U Qd Q ok rs h k
 unfold DH at h
 split at h
 ·rename_i ys
  cases q:dz ys with
  |none=>rw[q] at h;exact h.elim
  |some bs=>
   rw[q] at h
   cases rs with
   |cons r1 r2=>
    cases r2
    cases r1 with
    |list hs hn r=>exact⟨_,bs,rfl,by rw[hs,xu r q],k (.v _) _ U H .refl ok (Rp.int _) h⟩
 ·exact h.elim
theorem MY(hc:X.calm=true)(hg:Gl X "sum")(hm:X.mg "sum"=none)(ha:DA X (e::es) t)
  (he:starEach (e::es) X.env=(false,eval e X.env)::starEach es X.env:=by rfl) (hpl:(backTo pos (starEach es X.env)).any (·.1)=false:=by rfl):DE X (.Call (.Name "sum" p) (e::es) [] pos) (dCB DH t):=
 n6 (PK hc) Ux hg hm PyProof.Rows.Boot.«sum» ha ⋯ ⋯ he hpl
theorem T9{ys:List PyData}{U:Mu}{Q:DK}:DH [.v (.list ys)] U Q=(match dz ys with|some bs=>Q (.v (.int bs.sum)) U|none=>False):=propext Iff.rfl
end
section
variable {X:Cx}{a b c:Expr}{ta tb tc:DTE}{pos:Pos}
theorem QU{op op':CmpOp}{rr rr':R2}{r r':D->D->Mu->DK->Prop}(ho:OpR X (compareOp op) rr)(lo:lK X.K rr r)(ho':OpR X (compareOp op') rr')(lo':lK X.K rr' r')(ha:DE X a ta)(hb:DE X b tb)(hc:DE X c tc)
  (hm:lastMarks [op,op'] [b,c]=false:=by with_unfolding_all rfl):DT X (.Compare a [op,op'] [b,c] pos) (dB (yW r r' ta tb tc)):=by
 obtain⟨t1,p1,l1⟩:=ha
 obtain⟨t2,p2,l2⟩:=hb
 obtain⟨t3,p3,l3⟩:=hc
 refine⟨_,RJ ho ho' p1 p2 p3 hm,Bk (fun Z H ρ U Qd Q S h k=>?_)⟩
 refine l1 Z H ρ U _ _ S h fun x ux ac H1 e1 S1 rx h1=>?_
 refine l2 Z H1 ρ ac _ _ S1 h1 fun y uy ad H2 e2 S2 ry h2=>?_
 refine lo x y ux uy H2 ad _ _ S2.mu (rx.ext S1.mu e2) ry h2 fun z uz ap H3 e3 ok3 rz h3=>?_
 have S3:St0 X.K H3 ρ ap Z:=⟨ok3,S2.rho.ext S2.mu e3⟩
 split at h3
 ·rename_i kk
  cases rz
  refine⟨kk,rfl,?_⟩
  cases kk with
  |true=>
   refine BX ?_
   refine l3 Z H3 ρ ap _ _ S3 (by simpa using h3) fun w uw ce H4 e4 S4 rw' h4=>?_
   exact lo' y w uy uw H4 ce _ _ S4.mu ((ry.ext S2.mu e3).ext S3.mu e4) rw' h4 fun d u Y H' e5 ok r q=>k d u Y H' (e1.trans (e2.trans (e3.trans (e4.trans e5)))) ⟨ok,S4.rho.ext S4.mu e5⟩ r q
  |false=>exact Df (k (.v (.bool false)) _ ap H3 (e1.trans (e2.trans e3)) S3 (Rp.bool false) (by simpa using h3))
 ·exact h3.elim
theorem cl3{k k':Str}{v v':Addr}{x:Str}{a:Addr}(n:(k==k')=false)(h:List.lookup x [(k,v),(k',v')]=some a):List.lookup x [(k',v'),(k,v)]=some a:=by
 simp only[lookup_cons,List.lookup_nil] at h ⊢
 cases e:x==k with
 |true=>
  have e':x=k:=by simpa using e
  subst e'
  rw[e] at h
  rw[n]
  exact h
 |false=>
  rw[e] at h
  cases e2:x==k' with
  |true=>rw[e2] at h;exact h
  |false=>rw[e2] at h;exact absurd h (by simp)
end
section
variable {X:Cx}{o e:Expr}{to te:DTE}{apos cpos pos:Pos}
noncomputable def VR(to:DTE):DTE:=fun ρ U Q=>to ρ U fun x ac=>match x with
 |.m l=>(match ac l with
  |some xs=>∃d,xs[xs.length-1]? = some d/\Q (.v d) (aR ac l xs.dropLast)
  |none=>False)
 |_=>False
theorem RpL.dropLast{K:PySem.W.Frag}{U:Mu}{H:Hp}:∀{ds:List PyData} {us:List V},RpL K U H ds us->RpL K U H ds.dropLast us.dropLast
 |_,_,.nil=>.nil
 |_,_,.cons h .nil=>.nil
 |_,_,.cons h (.cons h2 t)=>.cons h (RpL.dropLast (.cons h2 t))
theorem RpL.eraseIdx{K:PySem.W.Frag}{U:Mu}{H:Hp}:∀{ds:List PyData} {us:List V} (i:Nat),RpL K U H ds us->RpL K U H (ds.eraseIdx i) (us.eraseIdx i)
 |_,_,_,.nil=>.nil
 |_,_,0,.cons _ t=>t
 |_,_,i+1,.cons h t=>.cons h (RpL.eraseIdx i t)
theorem VH(ho:DE X o to)(hbase:attributeBase o "pop" X.env (eval o X.env)=eval o X.env:=by rfl)(hline:(apos.endLine==cpos.line)=true:=by rfl) :
  DE X (.Call (.Attribute o "pop" apos) [] [] cpos) (VR to):=by
 obtain⟨t1,p1,l1⟩:=ho
 refine⟨_,Vx PySem.F.plainAttrs_list PySem.F.slot_list_pop PySem.F.type_list_pop Vf p1 hbase hline,fun Z H ρ U Qd Q S h k=>?_⟩
 refine l1 Z H ρ U _ _ S h fun x ux ac H1 e1 S1 rx h1=>?_
 cases x with
 |m l=>
  obtain⟨rfl,ds,hm⟩:=id rx
  obtain⟨us,hl,rl⟩:=S1.mu l ds hm
  refine⟨.inl ⟨rfl,us,SqL.of hl⟩,?_⟩
  dsimp only at h1
  rw[hm] at h1
  obtain⟨d,hd,q⟩:=h1
  obtain⟨u,hu,ru⟩:=rl.get hd
  have ex:Ext X.K ac H1 (aR ac l ds.dropLast) (upd H1 l (.lst us.dropLast)):=pB hm
  exact⟨l,us,u,rfl,rfl,hl,by rw[<- rl.length];exact hu,k (.v d) u _ _ (e1.trans ex) ⟨S1.mu.set hm rl.dropLast,S1.rho.ext S1.mu ex⟩ (ru.ext S1.mu ex) q⟩
 |v d=>exact h1.elim
 |s ns=>exact h1.elim
 |o _=>exact h1.elim
 |q _=>exact h1.elim
noncomputable def Bj(to te:DTE):DTE:=fun ρ U Q=>to ρ U fun x ac=>match x with
 |.m l=>te ρ ac fun y ad=>(match y,ad l with
  |.v (.int i),some xs=>(0<=i/\i<1000)/\∃d,xs[i.toNat]? = some d/\Q (.v d) (aR ad l (xs.eraseIdx i.toNat))
  |_,_=>False)
 |_=>False
theorem Xp{i:Int}{n:Nat}(h0:0<=i)(h:i.toNat<n):seqIndex? i n=some i.toNat:=by
 unfold seqIndex?
 simp only[Option.ite_none_right_eq_some,Option.some.injEq]<;>first|(split<;>(try split)<;>simp_all<;>omega)|(constructor<;>omega)|omega
theorem Ky(ho:DE X o to)(ha:DE X e te)(hbase:attributeBase o "pop" X.env (eval o X.env)=eval o X.env:=by rfl)
  (hfew:((backTo cpos (starEach [e] X.env)).all (fun x=>!x.1)&&(backToKw cpos (keywordEach [] X.env)).all (fun x=>x.1.isSome)
   && decide ([e].length+([]:List Keyword).length+(if ([]:List Keyword).isEmpty then 0 else 1)<30))=true:=by rfl)
  (hline:(apos.endLine==cpos.line)=true:=by rfl) (hs:starEach [e] X.env=(false,eval e X.env)::starEach [] X.env:=by rfl) (hplain:(backTo cpos (starEach [] X.env)).any (·.1)=false:=by rfl) :
  DE X (.Call (.Attribute o "pop" apos) [e] [] cpos) (Bj to te):=by
 obtain⟨t1,p1,l1⟩:=ho
 obtain⟨t2,p2,l2⟩:=ha
 refine⟨_,Ue PySem.F.plainAttrs_list PySem.F.slot_list_pop PySem.F.type_list_pop RU p1 (kX p2 we hs) hbase hfew hline hs hplain,fun Z H ρ U Qd Q S h k=>?_⟩
 refine l1 Z H ρ U _ _ S h fun x ux ac H1 e1 S1 rx h1=>?_
 cases x with
 |m l=>
  obtain⟨rfl,ds,hm⟩:=id rx
  obtain⟨us,hl,rl⟩:=S1.mu l ds hm
  refine⟨.inl ⟨rfl,us,SqL.of hl⟩,?_⟩
  refine l2 Z H1 ρ ac _ _ S1 h1 fun y uy ad H2 e2 S2 ry h2=>?_
  obtain⟨_,ds2,hm2⟩:=rx.ext S1.mu e2
  obtain⟨us2,hl2,rl2⟩:=S2.mu l ds2 hm2
  rw[hm2] at h2
  split at h2
  ·rename_i i ds3 e3
   cases e3
   obtain⟨⟨i0,i1⟩,d,hd,q⟩:=h2
   cases ry
   obtain⟨u,hu,ru⟩:=rl2.get hd
   have hlt:i.toNat<us2.length:=by
    rcases lt_or_ge i.toNat us2.length with z|z
    ·exact z
    ·rw[List.getElem?_eq_none z] at hu;cases hu
   have ex:Ext X.K ad H2 (aR ad l (ds2.eraseIdx i.toNat)) (upd H2 l (.lst (us2.eraseIdx i.toNat))):=pB hm2
   exact⟨l,us2,i,i.toNat,u,rfl,rfl,hl2,∅,∅,Xp i0 hlt,hu,k (.v d) u _ _ (e1.trans (e2.trans ex)) ⟨S2.mu.set hm2 (rl2.eraseIdx _),S2.rho.ext S2.mu ex⟩ (ru.ext S2.mu ex) q⟩
  ·exact h2.elim
 |v d=>exact h1.elim
 |s ns=>exact h1.elim
 |o _=>exact h1.elim
 |q _=>exact h1.elim
noncomputable def PX(to:DTE):DTT:=fun ρ U Q=>to ρ U fun x ac=>match x with
 |.m l=>(match ac l with|some xs=>Q (!xs.isEmpty) ac|none=>False)
 |_=>False
theorem SF(ho:DE X o to)(he:∀whole,isTrue o X.env whole=(do let v <- whole;standAt o.pos;holding [v] (truthy v)):=by intro _;rfl):DT X o (PX to):=by
 obtain⟨t1,p1,l1⟩:=ho
 refine⟨_,QJ p1 he,fun Z H ρ U Qd Q S h k=>?_⟩
 refine l1 Z H ρ U _ _ S h fun x ux ac H1 e1 S1 rx h1=>?_
 cases x with
 |m l=>
  obtain⟨rfl,ds,hm⟩:=id rx
  obtain⟨us,hl,rl⟩:=S1.mu l ds hm
  dsimp only at h1
  rw[hm] at h1
  refine⟨!us.isEmpty,.inl ⟨us,SqL.of hl,rfl⟩,?_⟩
  have:us.isEmpty=ds.isEmpty:=by cases rl<;>rfl
  rw[this]
  exact k _ ac H1 e1 S1 h1
 |v d=>exact h1.elim
 |s ns=>exact h1.elim
 |o _=>exact h1.elim
 |q _=>exact h1.elim
noncomputable def VD(i:Nat)(te:DTE):DTS:=fun Dd ρ U=>∃a:Int,ρ[i]? = some (some (.v (.int a)))/\te ρ U fun y ac=>match y with
 |.v (.int b)=>Dd.nx (ρ.set i (some (.v (.int (a+b))))) ac
 |_=>False
theorem UL{i:Nat}{x:Str}{pos':Pos}(hN:X.N.Nodup)(hi:X.N[i]? = some x)(hx:Loc X.env.scope x)(ha:DE X e te)(hf:X.fn x=true\/X.env.scope.names.lookup x=some .local:=by first|exact .inl rfl|exact .inr rfl|assumption) :
  DS X (.AugAssign (.Name x pos') .Add e pos) (VD i te):=by
 obtain⟨t1,p1,l1⟩:=ha
 refine⟨_,Vn hN hi hx p1 Wh hf,fun Z H ρ U Dd De S h k1 k2 k3 k4=>?_⟩
 obtain⟨a,ea,h⟩:=h
 obtain⟨u,hu,ru⟩:=S.rho.2 i _ ea
 cases ru
 refine⟨_,hu,l1 Z H ρ U _ _ S h fun y uy ac H1 e1 S1 ry h1=>?_⟩
 split at h1
 ·cases ry
  exact⟨_,_,rfl,rfl,k1 _ _ ac H1 e1 ⟨S1.mu,S1.rho.set (d:=.v (.int _)) (Rp.int _)⟩ h1⟩
 ·exact h1.elim
end
section
variable {X:Cx}{e:Expr}{es:List Expr}{t:DTA}{p pos:Pos}
theorem OW(hc:X.calm=true):n8 X (.builtin "min") (fun xs H Q=>∃(p:Addr) (ns:List Int),xs=[.ref p]/\H p=some (.lst (ns.map V.int))/\0<ns.length/\∀M∈ns,(∀a∈ns,M<=a)->Q (.int M) H):=by
 intro pins s Z H xs us Q I r h
 obtain⟨l,ns,rfl,hl,hne,q⟩:=h
 obtain⟨u,rfl,rx⟩:=vals1 r
 cases rx
 obtain⟨its,rv,pl,_⟩:=I.list (SqL.of hl)
 have hi:=Dp rv
 obtain⟨xs,e⟩:=hi.allInts.items
 have hns:ns=xs.toList.map (·.1):=by rw[<- hi.numsOf,<- nums_intItems,<- e]
 have hsz:0<xs.size:=by have h3:=hne;rw[hns,length_map,Array.length_toList] at h3;exact h3
 have hL:=pl.isList
 rw[e] at hL
 refine min_intList (I.ok.hd hc) hL hsz fun v h' tk hv hk=>?_
 obtain⟨t,rfl⟩:=intItems_at hv
 obtain⟨h1,h2⟩:=argBest_lt (numAt xs) (xs.size-1)
 refine⟨.int _,H,I.kept hk,⟨_,rfl⟩,q _ ?_ fun a ha=>?_⟩
 ·rw[hns,numAt_eq];exact getD_mem (by rw[length_map,Array.length_toList];omega)
 ·rw[hns] at ha
  obtain⟨j,hj,rfl⟩:=mem_getD ha
  rw[length_map,Array.length_toList] at hj
  rw[<- numAt_eq];exact h2 j ∅
theorem Pb(hc:X.calm=true):n8 X (.builtin "max") (fun xs H Q=>∃(p:Addr) (ns:List Int),xs=[.ref p]/\H p=some (.lst (ns.map V.int))/\0<ns.length/\∀M∈ns,(∀a∈ns,a<=M)->Q (.int M) H):=by
 intro pins s Z H xs us Q I r h
 obtain⟨l,ns,rfl,hl,hne,q⟩:=h
 obtain⟨u,rfl,rx⟩:=vals1 r
 cases rx
 obtain⟨its,rv,pl,_⟩:=I.list (SqL.of hl)
 have hi:=Dp rv
 obtain⟨xs,e⟩:=hi.allInts.items
 have hns:ns=xs.toList.map (·.1):=by rw[<- hi.numsOf,<- nums_intItems,<- e]
 have hsz:0<xs.size:=by have h3:=hne;rw[hns,length_map,Array.length_toList] at h3;exact h3
 have hL:=pl.isList
 rw[e] at hL
 refine max_intList (I.ok.hd hc) hL hsz fun v h' tk hv hk=>?_
 obtain⟨t,rfl⟩:=intItems_at hv
 obtain⟨h1,h2⟩:=argBest_gt (numAt xs) (xs.size-1)
 refine⟨.int _,H,I.kept hk,⟨_,rfl⟩,q _ ?_ fun a ha=>?_⟩
 ·rw[hns,numAt_eq];exact getD_mem (by rw[length_map,Array.length_toList];omega)
 ·rw[hns] at ha
  obtain⟨j,hj,rfl⟩:=mem_getD ha
  rw[length_map,Array.length_toList] at hj
  rw[<- numAt_eq];exact h2 j ∅
def KC:List D->Mu->DK->Prop:=fun xs U Q=>match xs with
 |[.v (.list ys)]=>(match dz ys with|some ns=>0<ns.length/\∀M∈ns,(∀a∈ns,M<=a)->Q (.v (.int M)) U|none=>False)
 |_=>False
def LP:List D->Mu->DK->Prop:=fun xs U Q=>match xs with
 |[.v (.list ys)]=>(match dz ys with|some ns=>0<ns.length/\∀M∈ns,(∀a∈ns,a<=M)->Q (.v (.int M)) U|none=>False)
 |_=>False
theorem Tr{K:PySem.W.Frag}:si K (fun xs H Q=>∃(p:Addr) (ns:List Int),xs=[.ref p]/\H p=some (.lst (ns.map V.int))/\0<ns.length/\∀M∈ns,(∀a∈ns,M<=a)->Q (.int M) H) KC:=by
 intro xs us H U Qd Q ok rs h k
 unfold KC at h
 split at h
 ·rename_i ys
  cases q:dz ys with
  |none=>rw[q] at h;exact h.elim
  |some ns=>
   rw[q] at h
   cases rs with
   |cons r1 r2=>
    cases r2
    cases r1 with
    |list hs hn r=>exact⟨_,ns,rfl,by rw[hs,xu r q],h.1,fun M hM hle=>k (.v _) _ U H .refl ok (Rp.int _) (h.2 M hM hle)⟩
 ·exact h.elim
theorem SI{K:PySem.W.Frag}:si K (fun xs H Q=>∃(p:Addr) (ns:List Int),xs=[.ref p]/\H p=some (.lst (ns.map V.int))/\0<ns.length/\∀M∈ns,(∀a∈ns,a<=M)->Q (.int M) H) LP:=by
 intro xs us H U Qd Q ok rs h k
 unfold LP at h
 split at h
 ·rename_i ys
  cases q:dz ys with
  |none=>rw[q] at h;exact h.elim
  |some ns=>
   rw[q] at h
   cases rs with
   |cons r1 r2=>
    cases r2
    cases r1 with
    |list hs hn r=>exact⟨_,ns,rfl,by rw[hs,xu r q],h.1,fun M hM hle=>k (.v _) _ U H .refl ok (Rp.int _) (h.2 M hM hle)⟩
 ·exact h.elim
theorem Tw(hc:X.calm=true)(hg:Gl X "min")(hm:X.mg "min"=none)(ha:DA X (e::es) t)
  (he:starEach (e::es) X.env=(false,eval e X.env)::starEach es X.env:=by rfl) (hpl:(backTo pos (starEach es X.env)).any (·.1)=false:=by rfl):DE X (.Call (.Name "min" p) (e::es) [] pos) (dCB KC t):=
 n6 (OW hc) Tr hg hm PyProof.Rows.Boot.«min» ha ⋯ ⋯ he hpl
theorem TU(hc:X.calm=true)(hg:Gl X "max")(hm:X.mg "max"=none)(ha:DA X (e::es) t)
  (he:starEach (e::es) X.env=(false,eval e X.env)::starEach es X.env:=by rfl) (hpl:(backTo pos (starEach es X.env)).any (·.1)=false:=by rfl):DE X (.Call (.Name "max" p) (e::es) [] pos) (dCB LP t):=
 n6 (Pb hc) SI hg hm PyProof.Rows.Boot.«max» ha ⋯ ⋯ he hpl
end
section
variable {X:Cx}{a b:Expr}{ta tb:DTE}{pos:Pos}
theorem BF:fillsNumberSlot (.type "tuple") "mul"=pure false:=
 PySem.fillsNumberSlot_seq (id:="tuple.__mul__") (r:=some (.builtin "tuple.__rmul__")) F.slot_tuple_mul.lookup nofun F.slot_tuple_rmul.lookup nofun
theorem JA:seqRepeat? (.type "tuple")=pure (some (.builtin "tuple.__mul__")):=by
 unfold seqRepeat?
 rw[PySem.seqSlot_of (T:="tuple") (name:="__mul__") (id:="tuple.__mul__") F.slot_tuple_mul.lookup nofun,PySem.seqSlot_of (T:="tuple") (name:="__rmul__") (id:="tuple.__rmul__") F.slot_tuple_rmul.lookup nofun]
 rfl
theorem EU(a:Int)(t:Tok)(l:Addr)(o:Obj)(items:Array Value)(n:Nat)(hc:o.cls = .type "tuple")(hd:o.data = .seq items n) :
  Meets (Builtin.«int.__rmul__» ⟨[.int a t,.ref l],[]⟩) (fun _ R s=>s.heap.get? l=some o/\R (.ok (.ret Value.notImplemented)) s):=
 .of_wp fun prog w A R s h=>by
  obtain⟨hp,g,d,tk,os⟩:=s;obtain⟨hl,h⟩:=h
  wp_walk
  rw[hd]
  wp_walk
  exact⟨_,rfl,h⟩
theorem Dg(l:Addr)(o:Obj)(items:Array Value)(n:Nat)(k:Int)(u:Tok)(hc:o.cls = .type "tuple")(hd:o.data = .seq items n)(h2:2<=k)(h3:k<=1000)(he:items.isEmpty=false)(hz:items.size*k.toNat<=1000) :
  Meets (Builtin.«tuple.__mul__» ⟨[.ref l,.int k u],[]⟩) (fun _ R s=>s.heap.get? l=some o/\R (.ok (.ret (Value.ref s.heap.objs.size))) {s with heap:=s.heap.push {cls:=Value.type "tuple",data:=Data.seq (List.foldl (fun x1 x2=>x1++x2) #[] (List.replicate k.toNat items))},toks:=s.toks}):=
 .of_wp fun prog w A R s h=>by
  obtain⟨hp,g,d,tk,os⟩:=s;obtain⟨hl,h⟩:=h
  have c1:¬ (decide (k < -2 ^ 63) || decide (k ≥ 2 ^ 63))=true:=by simp;omega
  have c2:¬ (items.isEmpty || k==1)=true:=by rw[he];simp;omega
  have c3:¬ (decide (k<=0) || items.isEmpty)=true:=by rw[he];simp;omega
  have hp':(items.size:Int)*k<=1000:=by
   have:(items.size:Int)*k=((items.size*k.toNat:Nat):Int):=by rw[Int.natCast_mul];congr 1;omega
   omega
  have c4:¬ (items.size:Int)*k>(2 ^ 63-1) / 8:=by
   have:((2:Int) ^ 63-1) / 8>1000:=by decide
   omega
  have c5:¬ Builtin.Tuple.tupleTooMany ((items.size:Int)*k)=true:=by
   unfold Builtin.Tuple.tupleTooMany
   have:(1000:Int)<=(sizeLine:Int):=by decide
   simp only[decide_eq_true_eq];omega
  wp_walk
  rw[if_neg c1]
  wp_walk
  rw[hd]
  refine wpAny_pure (wpAny_pure ?_)
  show wpAny _ _ (if (items.isEmpty || k==1)=true then _ else _) _ _ _
  rw[if_neg c2]
  show wpAny _ _ (if (decide (k<=0) || items.isEmpty)=true then _ else _) _ _ _
  rw[if_neg c3]
  show wpAny _ _ (if (items.size:Int)*k>(2 ^ 63-1) / 8 then _ else _) _ _ _
  rw[if_neg c4]
  show wpAny _ _ (if Builtin.Tuple.tupleTooMany ((items.size:Int)*k)=true then _ else _) _ _ _
  rw[if_neg c5]
  have hsz:¬ (List.foldl (fun x1 x2=>x1++x2) #[] (List.replicate k.toNat items)).size>sizeLine:=by
   have e:∀(m:Nat) (acc:Array Value),(List.foldl (fun x1 x2=>x1++x2) acc (List.replicate m items)).size=acc.size+m*items.size:=by
    intro m
    induction m with
    |zero=>intro acc;simp
    |succ m ih=>intro acc;rw[replicate_succ,List.foldl_cons,ih,Array.size_append,Nat.succ_mul];omega
   rw[e]
   have:(1000:Nat)<=sizeLine:=by decide
   simp only[size_toArray,length_nil]
   rw[Nat.mul_comm] at hz
   omega
  show wpAny _ _ (Builtin.Tuple.tupleExact (List.foldl (fun x1 x2=>x1++x2) #[] (List.replicate k.toNat items))>>=_) _ _ _
  refine wpAny_bind ?_
  unfold Builtin.Tuple.tupleExact
  refine wpAny_newObj_type ?_ (by first|exact Nat.not_lt.mp hsz|omega|size_fits)
  wp_walk
  exact⟨_,rfl,h⟩
noncomputable def Uo(K:PySem.W.Frag):R2:=fun x y H Q=>∃l k xs,x = .ref l/\y = .int k/\SqT K H l xs/\2<=k/\k<=1000/\xs≠[]/\xs.length*k.toNat<=1000 /\
 ∀p,H p=none->Q (.ref p) (upd H p (.tup (List.replicate k.toNat xs).flatten))
theorem Sf:OpR X (binaryOp .Mult) (Uo X.K):=by
 intro pins s Z H x y v u Q I rx ry h
 obtain⟨l,k,xs,rfl,rfl,hT,h2,h3,hne,hz,q⟩:=h
 cases rx
 obtain⟨t,rfl⟩:=ry
 obtain⟨its,r,⟨o,ho,hc,n,hd⟩,hzz⟩:=I.tuple hT
 have hl:=r.length
 have he:its.toArray.isEmpty=false:=by
  cases its with
  |nil=>exact absurd (r.Dy.mp rfl) hne
  |cons a r'=>simp
 have hnew:List.foldl (fun x1 x2=>x1++x2) #[] (List.replicate k.toNat its.toArray)=(List.replicate k.toNat its).flatten.toArray:=by
  have:=foldl_rep its k.toNat []
  rw[nil_append] at this
  exact this
 refine wpAny_binaryOp_repeat_ref (T:="tuple") (U:="int") ⋯ ⟨_,ho,hc⟩ (fun s'=>typeIs_int s' k t) BF F.fills_int_mul F.slot_int_rmul JA F.slot_int_index.lookup
  (call_meets F.slot_int_rmul (typeIs_int s k t) F.entry_int_rmul (F.args_int_rmul_2 _ _) (EU k t l o its.toArray n hc hd)
   ⟨ho,rfl,⟨_,ho,hc⟩,call_meets F.slot_tuple_mul ⟨_,ho,hc⟩ F.entry_tuple_mul (F.args_tuple_mul_2 _ _) (Dg l o its.toArray n k t hc hd h2 h3 he (by rw[size_toArray,<- hl];exact hz)) ⟨ho,?_⟩⟩)
 rw[hnew]
 refine⟨.ref s.heap.objs.size,_,I.laid (t':=s.toks) (o:=.tup (List.replicate k.toNat xs).flatten) (fun b ob q=>Heap.get?_push_of_some _ q) (le_refl _) ?_,rfl,q _ (I.hok.fresh (le_refl _))⟩
 exact⟨le_trans (by rw[len_rep,Nat.mul_comm];exact hz) ⋯,_,r.rep k.toNat,IsTup.new _ _⟩
def D7:D->D->Mu->DK->Prop:=fun x y U Q=>match x,y with
 |.v (.tuple xs),.v (.int k)=>(2<=k/\k<=1000/\xs≠[]/\xs.length*k.toNat<=1000)/\Q (.v (.tuple (List.replicate k.toNat xs).flatten)) U
 |_,_=>False
theorem R0{xs:List PyData}{k:Int}{U:Mu}{Q:DK}:D7 (.v (.tuple xs)) (.v (.int k)) U Q=((2<=k/\k<=1000/\xs≠[]/\xs.length*k.toNat<=1000)/\Q (.v (.tuple (List.replicate k.toNat xs).flatten)) U):=propext Iff.rfl
theorem SD{K:PySem.W.Frag}:lK K (Uo K) D7:=by
 intro x y ux uy H U Qd Q ok rx ry h k
 unfold D7 at h
 split at h
 ·rename_i xs n
  cases ry
  cases rx with
  |@tuple a us _ ha ra=>
   refine⟨a,n,us,rfl,rfl,ha,h.1.1,h.1.2.1,fun z=>h.1.2.2.1 ?_,by rw[<- ra.length];exact h.1.2.2.2,fun p hp=>?_⟩
   ·subst z;cases ra;rfl
   ·exact k (.v _) _ U _ (dZ hp) (ok.new hp) (mx ok (ra.rep _) hp) h.2
 ·exact h.elim
theorem Se(ha:DE X a ta)(hb:DE X b tb):DE X (.BinOp a .Mult b pos) (dOp D7 ta tb):=Cn Sf SD ha hb
end
noncomputable def Jl(cap:List (Option Nat))(src:DTI)(g:DTG)(c:DTT)(elt:DTE):DTE:=fun ρ U Q=>src ρ U fun xs ac=>xs.length<=1000/\∀p,ac p=none->∃Pv:Nat->List PyData->Mu->Prop,Pv 0 [] (aR ac p []) /\
 (∀i x acc Y,xs[i]? = some x->Y p=some acc->Pv i acc Y->g (.v x) (cy cap ρ) Y fun db ad=>Le (cy cap ρ) db/\c db ad fun b ap=>
  if b=true then elt db ap fun d ce=>ce p=some acc/\(match d with|.v y=>Pv (i+1) (acc++[y]) (aR ce p (acc++[y]))|_=>False) else ap p=some acc/\Pv (i+1) acc ap) /\
 (∀acc Y,Pv xs.length acc Y->Y p=some acc->Q (.m p) Y)
theorem Mq{X:Cx}{pos2:Pos}{use:Option (Value->Sem Unit)}{QQ:Value->Shared->Prop}{pins:List (Addr×Obj)}{s:Shared}{Z:St}{H:Hp}{ρ:Rho}{U:Mu}{Qd:DK}{N':List Str}{scope:Scope}{cl:List (Str×Addr)}{elt iter tg:Expr}{ifs:List Expr}{pos:Pos}{cap:List (Option Nat)}{src:DTI}{g:DTG}{c:DTT}{te:DTE}(hc:X.calm=X.calm)
  (hi:DI X tg iter src) (hg:∀fp bi bv,DG (bo X N' scope cl fp bi bv) tg g) (hif:∀fp bi bv,Lj (bo X N' scope cl fp bi bv) ifs c) (he:∀fp bi bv,DE (bo X N' scope cl fp bi bv) elt te)
  (hclos:closureFor scope X.env=pure cl) (hcell:∀y∈scope.names,y.2≠.cell) (hkind:scope.kind = .function) (hnames:∀y∈scope.names,y.2 = .local->scope.names.lookup y.1=some .local)
  (hcl:∀x a,cl.lookup x=some a->X.env.cells.lookup x=some a) (hhas:∀x,(relabel scope X.env).names.lookup x=some .cell\/(relabel scope X.env).names.lookup x=some .free->∃a,cl.lookup x=some a)
  (hlen:cap.length=N'.length) (hcap:∀(i j:Nat) (x:Str),cap[i]? = some (some j)->N'[i]? = some x->X.N[j]? = some x/\Vis X.env.scope x/\X.env.kindOf x≠some .local/\((relabel scope X.env).names.lookup x=some .cell\/(relabel scope X.env).names.lookup x=some .free))
  (hs:∀x,foldedSetIterable iter X.env x=pure x )
  (I:Inv X pins Z H s) (S:St0 X.K H ρ U Z) (h:Jl cap src g c te ρ U Qd)
  (hend:∀(s4:Shared) (Hc:Hp) (C pa:Addr) (m:Str->Option Value) (acc:List PyData) (lv:Mu),s4.heap.Ns C m->C6 X pins Hc C->(∀h',Heap.SameBut C s4.heap h'->Inv X pins Z Hc {s4 with heap:=h'}) ->
   Ext X.K U H lv Hc->St0 X.K Hc ρ lv Z->RpD X.K lv Hc (.m pa) (.ref pa)->Qd (.m pa) lv->compPost (model X.prog X.w) X.A X.xe use QQ (.ref pa) C (.ok .next) s4) :
  wpAny (model X.prog X.w) X.A (comprehension (.ListComp elt [⟨tg,iter,ifs,0⟩] scope pos) scope X.env pos2 (newList []) false (eval iter X.env) use) QQ X.xe s:=by
 obtain⟨wi,pw,li⟩:=hi
 refine wpAny_comprehension_free rfl hs hclos hkind hnames (thn (pw pins s Z H _ I (li Z H ρ U _ (fun J H1=>∃xs ac,Ext X.K U H ac H1/\St0 X.K H1 ρ ac Z/\PZ X.K J xs ac H1/\xs.length<=1000/\∀p,ac p=none->∃Pv:Nat->List PyData->Mu->Prop,Pv 0 [] (aR ac p []) /\
   (∀i x acc Y,xs[i]? = some x->Y p=some acc->Pv i acc Y->g (.v x) (cy cap ρ) Y fun db ad=>Le (cy cap ρ) db/\c db ad fun b ap=>
    if b=true then te db ap fun d ce=>ce p=some acc/\(match d with|.v y=>Pv (i+1) (acc++[y]) (aR ce p (acc++[y]))|_=>False) else ap p=some acc/\Pv (i+1) acc ap) /\
   (∀acc Y,Pv xs.length acc Y->Y p=some acc->Qd (.m p) Y)) S h (fun xs ac H1 J e1 S1 it q=>⟨xs,ac,e1,S1,it,q⟩)))
  fun v s1 h1=>thn h1 fun itv s2 h2=>?_)
 obtain⟨it,fp,tn,J,H2,rfl,I2,T,st2,f2,xs,ac,e1,S1,itok,hxs,allp⟩:=h2
 refine wpAny_newObj_type (wpAny_newFunctionEnv hcell (by intro y hy;simp at hy) (fun ii j' io=>?_) hkind)
 dsimp only at j' io ⊢
 have hfree2:H2 s2.heap.objs.size=none:=I2.hok.fresh (le_refl _)
 have hK2:X.K.lookup s2.heap.objs.size=none:=by
  cases z:X.K.lookup s2.heap.objs.size with
  |none=>rfl
  |some o=>exact absurd (Heap.lt_size (I2.kIn _ _ z)) (lt_irrefl _)
 have I3:Inv X pins Z (upd H2 s2.heap.objs.size (.lst [])) {s2 with heap:=s2.heap.push {cls:=.type "list",dict:=none,data:=.seq ([]:List Value).toArray}}:=
  I2.laid (t':=s2.toks) (fun b u e=>Heap.get?_push_of_some _ e) (le_refl _) ⟨zero_le _,[],0,.nil,Heap.get?_push_size _ rfl⟩
 generalize hH:s2.heap.push {cls:=.type "list",dict:=none,data:=.seq ([]:List Value).toArray} = hp3 at j' io I3 ⊢
 have hsz3:hp3.objs.size=s2.heap.objs.size+1:=by rw[<- hH,Heap.size_push]
 have kept3:∀b o,hp3.get? b=some o->ii.get? b=some o:=fun b o e=>io.extBut b o (ne_of_lt (Heap.lt_size e)) (Heap.get?_push_of_some _ e)
 have old3:∀b o,s2.heap.get? b=some o->hp3.get? b=some o:=fun b o e=>by rw[<- hH];exact Heap.get?_push_of_some _ e
 have fplt:∀b∈fp,b<s2.heap.objs.size:=fun b hb=>by obtain⟨o,e,_⟩:=T.obj 0 _ st2 b hb;exact Heap.lt_size e
 have fpst:∀b∈fp,b ∉ frs X.stack:=fun b hb hz=>by
  rcases List.mem_cons.mp (I2.rM b hz) with e|e
  ·exact (f2 b hb).2.1 e
  ·exact (f2 b hb).2.2.1 e
 obtain⟨s3,hs3⟩:∃s3:Shared,s3={s2 with heap:=hp3}:=⟨_,rfl⟩
 obtain⟨H3,hH3⟩:∃H3:Hp,H3=upd H2 s2.heap.objs.size (.lst []):=⟨_,rfl⟩
 have heap3:s3.heap=hp3:=by rw[hs3]
 rw[<- hH3] at I3
 have I3':Inv X pins Z H3 s3:=by rw[hs3];exact I3
 have hloc:H3 hp3.objs.size=none:=by have:=I3'.hok.fresh (a:=hp3.objs.size) (by rw[heap3];exact le_refl _);exact this
 have okc:(bo X N' scope cl fp s3 H3).Ok:=by
  refine⟨I3.ok.mod,?_,I3.ok.glob,I3.ok.blt,le_refl _,fun x y a h1 h2=>I3.ok.inj x y a (hcl x a h1) (hcl y a h2),fun x hx=>hhas x hx,fun x a h=>(nomatch h),I3.ok.hd,I3.ok.qt,I3.ok.frames,.inl rfl,fun b hb=>⟨?_,fun x a h=>(f2 b hb).2.2.2.2.1 x a (hcl x a h)⟩,
   I3'.bs,le_trans I3.ok.bsz I3'.sz,fun b o e hb=>?_,fun b hb=>fpst b hb,I3'.stack,I3'.xw⟩
  ·exact hkind
  ·show b≠s3.heap.objs.size
   rw[heap3,hsz3]
   exact ne_of_lt (lt_succ_of_lt (fplt b hb))
  ·rcases (f2 b hb).2.2.2.1 with z|z
   ·exact I3.ok.Ih b o e z
   ·exact absurd (lt_of_lt_of_le (Heap.lt_size (I3.ok.bs b o e).1) z) (lt_irrefl _)
 have I4:Inv (bo X N' scope cl fp s3 H3) [] (cy cap Z) H3 {s2 with heap:=ii,toks:=s2.toks+([]:List (Str×Value)).length}:=by
  refine⟨okc,by show s2.os=s3.os;rw[hs3],I3.bare,Un.kept (by show ∀b o,s3.heap.get? b=some o->_;rw[heap3];exact kept3),⟨_,(by show ii.Ns s3.heap.objs.size _;rw[heap3];exact j'),fun i x v e1 e2 e3=>?_⟩,fun x a h=>?_,(by show H3 s3.heap.objs.size=none;rw[heap3];exact hloc),fun x a h=>I3.lJ x a (hcl x a h),fun p hp=>?_,I3.hok.kept kept3,?_⟩
  ·obtain⟨j,h1,h2⟩:=tP e2
   obtain⟨hN,hv,hnl,hk⟩:=hcap i j x h1 e1
   obtain⟨m,_,hl⟩:=I3.loc
   obtain⟨u,r,lk⟩:=hl j x v hN h2 hv
   refine⟨u,r,.inr ⟨hk,?_⟩⟩
   obtain⟨a,ha⟩:=hhas x hk
   rcases lk with ⟨z,_⟩|⟨_,a',z1,z2⟩
   ·exact absurd z hnl
   ·have:a'=a:=by have q:=hcl x a ha;rw[z1] at q;exact Option.some.inj q
    subst this
    obtain⟨o,ho,hd⟩:=z2
    exact⟨a',ha,o,kept3 _ _ ho,hd⟩
  ·obtain⟨v,o,ho,hd⟩:=I3.cell x a (hcl x a h)
   exact⟨v,o,kept3 _ _ ho,hd⟩
  ·have hp':p∈X.pn++pins:=mem_append_left _ (by simpa using (show p∈X.pn++[] from hp))
   obtain⟨z1,z2,z3,z4,z5⟩:=I3'.pin p hp'
   refine⟨kept3 _ _ (by rw[<- heap3];exact z1),z2,(show p.1≠s3.heap.objs.size from ne_of_lt (Heap.lt_size z1)),fun z=>?_,z5⟩
   rcases List.mem_cons.mp (I3'.rM p.1 z) with e|e
   ·exact z3 e
   ·exact z4 e
  ·show (cy cap Z).length=N'.length
   unfold cy
   rw[length_map]
   exact hlen
 have ln:ac s2.heap.objs.size=none:=S1.mu.free hfree2
 obtain⟨Pv,pv0,body,fin⟩:=allp s2.heap.objs.size ln
 have loop:codeAny (model X.prog X.w) X.A (.compLoop (.ListComp elt [⟨tg,iter,ifs,0⟩] scope pos) 0 (.ref it) (.ref s2.heap.objs.size) (bo X N' scope cl fp s3 H3).env)
   (compPost (model X.prog X.w) X.A X.xe use QQ (.ref s2.heap.objs.size) hp3.objs.size) {s2 with heap:=ii,toks:=s2.toks+([]:List (Str×Value)).length}:=by
  refine g9 (fun n s'=>∃(i:Nat) (dl:St) (Hc:Hp) (acc:List PyData) (gl:Mu),n=xs.length-i/\i<=xs.length/\Inv (bo X N' scope cl fp s3 H3) [] dl Hc s'/\tn i s'.heap/\(∀b∈fp,Hc b=none) /\
   acc.length<=i/\gl s2.heap.objs.size=some acc/\Pv i acc gl/\St0 X.K Hc (cy cap ρ) gl dl/\Ext X.K ac H2 gl Hc) ?_ xs.length
   ⟨0,cy cap Z,H3,[],aR ac s2.heap.objs.size [],by simp,zero_le _,I4,T.keep 0 _ _ st2 (fun b hb o e=>kept3 b o (old3 b o e)),fun b hb=>?_,le_refl _,bP,pv0,?_,?_⟩
  ·rintro n s' ⟨i,dl,Hc,acc,gl,rfl,hi,Ic,tc,frc,hal,hpa,pvi,Sc,Ec⟩
   have stat:∀{Hd:Hp},(∀b∈fp,Hd b=none)->∀b∈fp,C6 (bo X N' scope cl fp s3 H3) [] Hd b:=fun hn b hb=>
    ⟨hn b hb,(okc.exf b hb).1,fpst b hb,.inl hb,fun x a h=>(okc.exf b hb).2 x a h,fun p hp=>(f2 b hb).2.2.2.2.2 p (mem_append_left _ (by simpa using (show p∈X.pn++[] from hp)))⟩
   obtain⟨go,stop⟩:=itok _ Hc Ec Sc.mu i
   by_cases hlt:i<xs.length
   ·obtain⟨g1,y1⟩:=go hlt
    refine thn (T.item (bo X N' scope cl fp s3 H3) rfl rfl rfl (fun z=>z) i [] s' dl Hc (fun _ _=>False) Ic (stat frc) tc g1) fun r s4 ⟨u,hr,h4⟩=>?_
    subst hr
    refine thn h4 fun _ s5 ⟨x,H5,I5,r5,y5,st5,fr5⟩=>?_
    obtain⟨d,hd,sm,rd⟩:=y1 x H5 y5
    have I5':=I5.pinned (stat fr5) (T.obj _ _ st5)
    have e5:Ext X.K _ Hc _ H5:=.of_same (U:=gl) sm
    have S5:St0 X.K H5 (cy cap ρ) gl dl:=⟨Sc.mu.PD e5 sm,Sc.rho.ext Sc.mu e5⟩
    obtain⟨gt,pg,lg⟩:=hg fp s3 H3
    refine thn (pg _ s5 dl H5 x u (fun al H'=>∃am Y,Ext X.K gl H5 Y H'/\St0 X.K H' am Y al/\Le (cy cap ρ) am/\c am Y fun b ap=>
      if b=true then te am ap fun d' ce=>ce s2.heap.objs.size=some acc/\(match d' with|.v y=>Pv (i+1) (acc++[y]) (aR ce s2.heap.objs.size (acc++[y]))|_=>False) else ap s2.heap.objs.size=some acc/\Pv (i+1) acc ap) I5' r5
     (lg dl H5 (cy cap ρ) _ (.v d) x _ _ S5 rd (body i d acc gl hd hpa pvi) fun al am Y H' e' S' q=>⟨am,Y,e',S',q⟩)) fun _ s6 ⟨gV,H6,I6,ld,lf,e6,S6,le6,q6⟩=>?_
    refine thn (hif fp s3 H3 _ s6 gV H6 ld lf _ (fun b H'=>∃Y,Ext X.K lf H6 Y H'/\St0 X.K H' ld Y gV/\if b=true then te ld Y fun d' ce=>ce s2.heap.objs.size=some acc/\(match d' with|.v y=>Pv (i+1) (acc++[y]) (aR ce s2.heap.objs.size (acc++[y]))|_=>False) else Y s2.heap.objs.size=some acc/\Pv (i+1) acc Y)
     I6 S6 q6 fun b Y H' e' S' q=>⟨Y,e',S',q⟩) fun b s7 ⟨H7,I7,kw,e7,S7,q7⟩=>?_
    have again:∀{H9:Hp} {s9:Shared} {acc':List PyData} {ls:Mu},Inv (bo X N' scope cl fp s3 H3) ([]++vK fp s5.heap) gV H9 s9->acc'.length<=i+1->ls s2.heap.objs.size=some acc'->Pv (i+1) acc' ls->dj X.K ls H9->gQ X.K ls H9 (cy cap ρ) gV ->
      Ext X.K ac H2 ls H9->∃m,m<xs.length-i/\∃(i:Nat) (dl:St) (Hc:Hp) (acc:List PyData) (gl:Mu),m=xs.length-i/\i<=xs.length/\Inv (bo X N' scope cl fp s3 H3) [] dl Hc s9/\tn i s9.heap/\(∀b∈fp,Hc b=none) /\
       acc.length<=i/\gl s2.heap.objs.size=some acc/\Pv i acc gl/\St0 X.K Hc (cy cap ρ) gl dl/\Ext X.K ac H2 gl Hc:=fun {H9 s9 acc' ls} I9 l9 p9 v9 m9 r9 e9=>by
     refine⟨xs.length-(i+1),∅,i+1,gV,H9,acc',ls,rfl,hlt,I9.nY,T.keep _ _ _ st5 fun b hb o e=>(I9.pin (b,o) (mem_append_right _ (mem_append_right _ (eP hb e)))).1,fun b hb=>?_,l9,p9,v9,⟨m9,r9⟩,e9⟩
     obtain⟨o,e,_⟩:=T.obj _ _ st5 b hb
     exact (I9.pin (b,o) (mem_append_right _ (mem_append_right _ (eP hb e)))).2.1
    cases b with
    |false=>
     have q8:kw s2.heap.objs.size=some acc/\Pv (i+1) acc kw:=by simpa using q7
     refine Df ?_
     exact again I7 ∅ q8.1 q8.2 S7.mu (S7.rho.le le6) (Ec.trans (e5.trans (e6.trans e7)))
    |true=>
     refine BX ?_
     obtain⟨t8,p8,l8⟩:=he fp s3 H3
     refine thn (p8 _ s7 gV H7 (fun v H'=>∃y jp,Ext X.K kw H7 jp H'/\St0 X.K H' ld jp gV/\Rp X.K jp H' y v/\jp s2.heap.objs.size=some acc/\Pv (i+1) (acc++[y]) (aR jp s2.heap.objs.size (acc++[y]))) I7
      (l8 gV H7 ld kw _ _ S7 (by simpa using q7) fun d' v jp H8 e8 S8 r8 q8=>?_)) fun v s8 ⟨v8,H8,I8,r8,y,jp,e8,S8,ry,pa8,fy⟩=>?_
     ·obtain⟨q80,q8⟩:=q8
      cases d' with
      |v y=>exact⟨y,jp,e8,S8,r8,q80,q8⟩
      |m _=>exact q8.elim
      |s _=>exact q8.elim
      |o _=>exact q8.elim
      |q _=>exact q8.elim
     ·obtain⟨us,hacc,rus⟩:=S8.mu s2.heap.objs.size _ pa8
      have hle:acc.length<=1000:=by omega
      refine thn (sr (X:=bo X N' scope cl fp s3 H3) _ s8 gV H8 (.ref s2.heap.objs.size) [v8] (.ref s2.heap.objs.size) [v] (fun _ H'=>H'=upd H8 s2.heap.objs.size (.lst (us++[v8]))) I8 rfl (.cons r8 .nil) ⟨_,us,v8,rfl,rfl,hacc,by rw[<- rus.length];exact gm hle,rfl⟩) fun _ s9 ⟨_,H9,I9,_,e9⟩=>?_
      subst e9
      have ex:Ext X.K jp H8 (aR jp s2.heap.objs.size (acc++[y])) (upd H8 s2.heap.objs.size (.lst (us++[v8]))):=pB pa8
      exact again I9 (by rw[length_append,length_singleton];omega) bP fy (S8.mu.set pa8 (rus.append (.cons ry .nil))) ((S8.rho.le le6).ext S8.mu ex) (Ec.trans (e5.trans (e6.trans (e7.trans (e8.trans ex)))))
   ·have ei:i=xs.length:=by omega
    subst ei
    refine thn (T.done (bo X N' scope cl fp s3 H3) rfl rfl rfl (fun z=>z) _ [] s' dl Hc (fun _ _=>False) Ic (stat frc) tc (stop rfl)) fun r s4 ⟨hr,I5⟩=>?_
    subst hr
    obtain⟨m,hn,_⟩:=I5.loc
    have hcC:Hc hp3.objs.size=none:=by have z:Hc s3.heap.objs.size=none:=I5.free;rw[heap3] at z;exact z
    obtain⟨us,hacc,rus⟩:=Sc.mu s2.heap.objs.size _ hpa
    refine hend s4 Hc hp3.objs.size s2.heap.objs.size m acc gl (by have z:s4.heap.Ns s3.heap.objs.size m:=hn;rw[heap3] at z;exact z) (I2.Q6 (by rw[hsz3];exact le_succ _) hcC) (fun h' hs'=>?_) (e1.trans Ec) ⟨Sc.mu,S1.rho.ext S1.mu Ec⟩ ⟨rfl,acc,hpa⟩ (fin acc gl pvi hpa)
    have kp:∀b o,b<s2.heap.objs.size->s4.heap.get? b=some o->h'.get? b=some o:=fun b o hb e=>hs'.extBut b o (by rw[hsz3];exact ne_of_lt (lt_succ_of_lt hb)) e
    have hok':HOk X.prog X.w Hc h':=fun b ob e=>by
     refine (I5.hok b ob e).Bi (fun cc v hcc q=>hs'.extBut cc v ?_ q) (fun _ q=>q) fun _ _ q=>q
     rintro rfl
     rcases hcc with z|z
     ·rw[<- z,hcC] at e;cases e
     ·rw[hcC] at z;cases z
    have u1:Un (frs X.stack) fp H2 H3 s2.heap s3.heap:=by rw[heap3,hH3];exact Un.laid old3 (le_refl _) hfree2
    have u2:Un (frs X.stack) fp H3 Hc s3.heap s4.heap:=I5.base
    exact I2.DU (ch:=fp) (by show s4.os=s2.os;have z:s4.os=s3.os:=I5.os;rw[z,hs3]) (Un.after (u1.trans u2) kp) hok' I5.bare fun b hb=>⟨(f2 b hb).2.2.2.1,(f2 b hb).2.1,(f2 b hb).2.2.2.2.1,(f2 b hb).2.2.2.2.2⟩
  ·have z:b≠s2.heap.objs.size:=ne_of_lt (fplt b hb)
   rw[hH3,cw z]
   exact (f2 b hb).1
  ·have ex:=nJ (o:=.lst []) (ds:=[]) S1.mu hfree2 hK2
   rw[hH3]
   exact⟨S1.mu.mut .nil hfree2 hK2,(S1.rho.ext S1.mu ex).cap⟩
  ·rw[hH3]
   exact nJ (o:=.lst []) (ds:=[]) S1.mu hfree2 hK2
 have envE:(bo X N' scope cl fp s3 H3).env=compEnvC scope cl hp3.objs.size X.env:=by show compEnvC scope cl s3.heap.objs.size X.env=_;rw[heap3]
 rw[envE] at loop
 exact codeAny_compStart_list loop (T.self X.A 0 _ _ _ (T.keep 0 _ _ st2 (fun b hb o e=>kept3 b o (old3 b o e))) loop)
theorem Qs{X:Cx}{N':List Str}{scope:Scope}{cl:List (Str×Addr)}{elt iter tg:Expr}{ifs:List Expr}{pos:Pos}{cap:List (Option Nat)}{src:DTI}{g:DTG}{c:DTT}{te:DTE}(hc:X.calm=X.calm)
  (hi:DI X tg iter src) (hg:∀fp bi bv,DG (bo X N' scope cl fp bi bv) tg g) (hif:∀fp bi bv,Lj (bo X N' scope cl fp bi bv) ifs c) (he:∀fp bi bv,DE (bo X N' scope cl fp bi bv) elt te)
  (hclos:closureFor scope X.env=pure cl) (hcell:∀y∈scope.names,y.2≠.cell) (hkind:scope.kind = .function) (hnames:∀y∈scope.names,y.2 = .local->scope.names.lookup y.1=some .local)
  (hcl:∀x a,cl.lookup x=some a->X.env.cells.lookup x=some a) (hhas:∀x,(relabel scope X.env).names.lookup x=some .cell\/(relabel scope X.env).names.lookup x=some .free->∃a,cl.lookup x=some a)
  (hlen:cap.length=N'.length) (hcap:∀(i j:Nat) (x:Str),cap[i]? = some (some j)->N'[i]? = some x->X.N[j]? = some x/\Vis X.env.scope x/\X.env.kindOf x≠some .local/\((relabel scope X.env).names.lookup x=some .cell\/(relabel scope X.env).names.lookup x=some .free))
  (hs:∀x,foldedSetIterable iter X.env x=pure x:=by intro _;rfl):DE X (.ListComp elt [⟨tg,iter,ifs,0⟩] scope pos) (Jl cap src g c te):=by
 refine G6 fun pins s Z H ρ U Qd Q I S h k=>?_
 rw[eval_ListComp]
 refine Mq hc hi hg hif he hclos hcell hkind hnames hcl hhas hlen hcap hs I S h fun s4 Hc C pa m acc lv hn _ hI e1 S1 r q=>?_
 exact⟨m,hn,fun h' hs'=>⟨.ref pa,Hc,hI h' hs',rfl,k (.m pa) _ lv Hc e1 S1 r q⟩⟩
theorem Sg{cap:List (Option Nat)}{src:DTI}{g:DTG}{t:DTT}{ta:DTE}{ρ:Rho}{U:Mu}{Q:DK}:Jl cap src g t ta ρ U Q=src ρ U fun xs ac=>xs.length<=1000/\∀p,ac p=none->∃Pv:Nat->List PyData->Mu->Prop,Pv 0 [] (aR ac p []) /\
 (∀i x acc Y,xs[i]? = some x->Y p=some acc->Pv i acc Y->g (.v x) (cy cap ρ) Y fun db ad=>Le (cy cap ρ) db/\t db ad fun b ap=>
  if b=true then ta db ap fun d ce=>ce p=some acc/\(match d with|.v y=>Pv (i+1) (acc++[y]) (aR ce p (acc++[y]))|_=>False) else ap p=some acc/\Pv (i+1) acc ap) /\
 (∀acc Y,Pv xs.length acc Y->Y p=some acc->Q (.m p) Y):=propext Iff.rfl
def Qy(cells:List (Str×Addr)):List (Str×Addr)->Prop
 |[]=>True
 |(k,v)::r=>cells.lookup k=some v/\Qy cells r
theorem KZ{cells:List (Str×Addr)}:Qy cells []:=trivial
theorem lF{cells r:List (Str×Addr)}{k:Str}{v:Addr}(h:cells.lookup k=some v)(t:Qy cells r):Qy cells ((k,v)::r):=⟨h,t⟩
theorem AN{cells:List (Str×Addr)}:∀{cl:List (Str×Addr)},Qy cells cl->∀x a,cl.lookup x=some a->cells.lookup x=some a
 |[],_,_,_,h=>by simp at h
 |(k,v)::r,c,x,a,h=>by
  rw[lookup_cons] at h
  cases e:x==k with
  |true=>
   have e':x=k:=by simpa using e
   rw[e] at h
   subst e'
   rw[c.1];exact h
  |false=>
   rw[e] at h
   exact AN c.2 x a h
noncomputable def Fly(O:Addr->Prop)(h:Heap)(e:Addr)(cls fl:Value):Prop:=(∀b,O b->b<h.objs.size)/\∃oe vs T oT ts,h.get? e=some oe/\oe.cls=cls/\oe.data = .fields vs/\vs[1]? = some (.ref T)/\vs[2]? = some .none/\¬ O e/\¬ O T/\T≠e/\h.get? T=some oT/\oT.data = .fields ts/\ts[3]? = some fl
structure Kp(O:Addr->Prop)(fs:List Addr)(h h':Heap):Prop where
 keep:∀b o,h.get? b=some o->O b->b ∉ fs->h'.get? b=some o
 slot:∀b o,h.get? b=some o->(∀vs,o.data≠.fields vs)->∃sl,h'.get? b=some {o with slots:=sl}
section
variable {O:Addr->Prop}{fs:List Addr}{h h1 h2:Heap}
theorem Kp.trans(a:Kp O fs h h1)(b:Kp O fs h1 h2):Kp O fs h h2:=⟨fun c o e l f=>b.keep c o (a.keep c o e l f) l f,fun c o e d=>let ⟨_,e1⟩:=a.slot c o e d;let ⟨sl,e2⟩:=b.slot c _ e1 d;⟨sl,e2⟩⟩
theorem Kp.of(k:∀b o,h.get? b=some o->h1.get? b=some o):Kp O fs h h1:=⟨fun b o e _ _=>k b o e,fun b o e _=>⟨o.slots,k b o e⟩⟩
theorem Kp.frames{base:Heap}{l:List Env}(a:Kp O fs h h1)(k:h.FunFrames base l):h1.FunFrames base l:=k.of_keeps fun b o e d=>let ⟨_,e1⟩:=a.slot b o e d;⟨_,e1,rfl⟩
end
section
variable {M:Model}{A:Around}{E:Value->Shared->Prop}{s:Shared}{O:Addr->Prop}{e L:Addr}{cls fl:Value}{env:Env}{outer:List Env}{base:Heap}{Q:Unit->Shared->Prop}
theorem Lo{oe:Obj}{vs:Array Value}{head:Value}{hadNext:Bool}(hfr:A.frames=some (env::outer))(hl:s.heap.FunFrames base (env::outer))(hf:env.frame=some L)
  (he:s.heap.get? e=some oe) (hc:oe.cls=cls) (hd:oe.data = .fields vs) (hz:1<vs.size) (h2:vs[2]? = some .none) (hO:∀b,O b->b<s.heap.objs.size) (hn:¬ O e)
  (k:∀h',Kp O (frs (env::outer)) s.heap h'->Fly O h' e cls (rawInt L)->Q () {s with heap:=h'}) :
  wpAny M A (do let a <- frameOf env;let pl <- entryPlaceOf L hadNext;let b <- EntryCells.newEntry head a .none (rawInt L) .none pl;setField (.ref e) 1 b) Q E s:=by
 have ene:e ∉ frs (env::outer):=fun hm=>by
  obtain⟨_,o,ho,hnf⟩:=hl.mem hm
  rw[he] at ho
  exact hnf vs (by rw[<- Option.some.inj ho];exact hd)
 refine wpAny_bind (wpAny_frameOf_fun hfr hl hf fun g1 s1=>wpAny_bind (wpAny_entryPlaceOf fun pl hpl=>?_))
 unfold EntryCells.newEntry newFields;refine wpAny_bind (wpAny_newObj_type ?_ (hpl.sizeOk5 _ _ _ _ _))
 generalize hob:({cls:=.type "traceback",dict:=none,data:=.fields ([head,.ref L,.none,rawInt L,.none]++(if pl.isEmpty then List.replicate 6 Value.none else pl)).toArray}:Obj)=ob
 have e1:g1.get? e=some oe:=(s1.2.1 e ene).trans he
 have e2:(g1.push ob).get? e=some oe:=Heap.get?_push_of_some ob e1
 have neT:g1.objs.size≠e:=Nat.ne_of_gt (Heap.lt_size e1)
 have d3:=Obj.data_mapFields hd (·.setIfInBounds 1 (Value.ref g1.objs.size))
 have szs:¬ O g1.objs.size:=fun z=>absurd (hO _ z) (by rw[s1.1];exact lt_irrefl _)
 refine wpAny_setField e2 hd hz (k _ ⟨fun b o q l f=>?_,fun b o q d=>?_⟩ ?_)
 ·have bne:e≠b:=fun z=>hn (by rw[z];exact l)
  rw[Heap.get?_update_other _ _ bne]
  exact Heap.get?_push_of_some _ ((s1.2.1 b f).trans q)
 ·have bne:e≠b:=fun z=>by rw[<- z,he] at q;exact d vs (by rw[<- Option.some.inj q];exact hd)
  obtain⟨sl,q1⟩:=s1.2.2 b o q
  exact⟨sl,by rw[Heap.get?_update_other _ _ bne];exact Heap.get?_push_of_some _ q1⟩
 ·refine⟨fun b z=>lt_of_lt_of_le (hO b z) (by rw[Heap.size_after_update,Heap.size_push,s1.1];exact le_succ _),_,_,g1.objs.size,ob,_,Heap.get?_update_self _ e2 (Obj.isFreed_of_fields d3),(Obj.cls_mapFields ..).trans hc,d3,by simp[hz],by rw[Array.getElem?_setIfInBounds_ne ⋯];exact h2,hn,szs,neT,?_,by rw[<- hob],?_⟩
  ·rw[Heap.get?_update_other _ _ (Ne.symm neT)]
   exact Heap.get?_push_size g1 (by rw[<- hob];rfl)
  ·rcases hpl with z|⟨_,_,_,_,_,_,_,z⟩<;>(rw[z];rfl)
theorem MT{oe:Obj}{vs:Array Value}(hfr:A.frames=some (env::outer))(hl:s.heap.FunFrames base (env::outer))(hf:env.frame=some L)
  (he:s.heap.get? e=some oe) (hc:oe.cls=cls) (hd:oe.data = .fields vs) (h1:vs[1]? = some .none) (h2:vs[2]? = some .none) (hO:∀b,O b->b<s.heap.objs.size) (hn:¬ O e)
  (k:∀h',Kp O (frs (env::outer)) s.heap h'->Fly O h' e cls (rawInt L)->Q () {s with heap:=h'}):wpAny M A (noteFrame (.ref e) env) Q E s:=by
 unfold noteFrame;simp only[hf]
 refine wpAny_bind (wpAny_field he hd h1 ?_)
 rw[if_neg ⋯]
 exact Lo hfr hl hf he hc hd (Array.getElem?_eq_some_iff.mp h1).1 h2 hO hn k
theorem G7(hfr:A.frames=some (env::outer))(hl:s.heap.FunFrames base (env::outer))(hf:env.frame=some L)(F:Fly O s.heap e cls .none)
  (k:∀h',Kp O (frs (env::outer)) s.heap h'->Fly O h' e cls (rawInt L)->Q () {s with heap:=h'}):wpAny M A (noteFrame (.ref e) env) Q E s:=by
 obtain⟨hO,oe,vs,T,oT,ts,he,hc,hd,h1,h2,hn,hT,nT,gT,dT,h3⟩:=F
 unfold noteFrame;simp only[hf]
 refine wpAny_bind (wpAny_field he hd h1 ?_)
 rw[if_pos (by simp)]
 refine wpAny_bind (wpAny_field gT dT h3 ?_)
 rw[if_neg (by simp[rawInt])]
 have oth:∀b,b≠T->(s.heap.update T (Obj.mapFields (·.setIfInBounds 3 Value.none))).get? b=s.heap.get? b:=fun b hb=>Heap.get?_update_other _ _ (Ne.symm hb)
 have kp:Kp O (frs (env::outer)) s.heap (s.heap.update T (Obj.mapFields (·.setIfInBounds 3 Value.none))):=
  ⟨fun b o q l _=>(oth b fun z=>hT (by rw[<- z];exact l)).trans q,fun b o q d=>⟨o.slots,(oth b fun z=>by rw[z,gT] at q;exact d ts (by rw[<- Option.some.inj q];exact dT)).trans q⟩⟩
 refine wpAny_bind (wpAny_setField gT dT (Array.getElem?_eq_some_iff.mp h3).1 ?_)
 exact Lo (s:={s with heap:=s.heap.update T (Obj.mapFields (·.setIfInBounds 3 Value.none))}) hfr (kp.frames hl) hf ((oth e (Ne.symm nT)).trans he) hc hd (Array.getElem?_eq_some_iff.mp h1).1 h2 (fun b z=>by rw[Heap.size_after_update];exact hO b z) hn fun h' a b=>k h' (kp.trans a) b
theorem qP{fs:List Addr}(F:Fly O s.heap e cls fl)(k:∀h',Kp O fs s.heap h'->Fly O h' e cls .none->Q () {s with heap:=h'}):wpAny M A (setFlight (.ref e) none) Q E s:=by
 obtain⟨hO,oe,vs,T,oT,ts,he,hc,hd,h1,h2,hn,hT,nT,gT,dT,h3⟩:=F
 have z3:3<ts.size:=(Array.getElem?_eq_some_iff.mp h3).1
 unfold setFlight
 refine wpAny_bind (wpAny_field he hd h1 ?_)
 rw[if_pos (by simp)]
 have oth:∀b,b≠T->(s.heap.update T (Obj.mapFields (·.setIfInBounds 3 ((none:Option Addr).elim Value.none fun f=>rawInt f)))).get? b=s.heap.get? b:=fun b hb=>Heap.get?_update_other _ _ (Ne.symm hb)
 refine wpAny_setField gT dT z3 (k _ ⟨fun b o q l _=>(oth b fun z=>hT (by rw[<- z];exact l)).trans q,fun b o q d=>⟨o.slots,(oth b fun z=>by rw[z,gT] at q;exact d ts (by rw[<- Option.some.inj q];exact dT)).trans q⟩⟩ ?_)
 exact⟨fun b z=>by rw[Heap.size_after_update];exact hO b z,oe,vs,T,_,_,(oth e (Ne.symm nT)).trans he,hc,hd,h1,h2,hn,hT,nT,Heap.get?_update_self _ gT (Obj.isFreed_of_fields (Obj.data_mapFields dT _)),Obj.data_mapFields dT _,by simp[z3]⟩
theorem Lq{oe:Obj}{vs:Array Value}(hfr:A.frames=some (env::outer))(hl:s.heap.FunFrames base (env::outer))(hf:env.frame=some L)
  (he:s.heap.get? e=some oe) (hc:oe.cls=cls) (hd:oe.data = .fields vs) (h1:vs[1]? = some .none) (h2:vs[2]? = some .none) (hO:∀b,O b->b<s.heap.objs.size) (hn:¬ O e)
  (k:∀h',Kp O (frs (env::outer)) s.heap h'->Fly O h' e cls .none->Q () {s with heap:=h'}):wpAny M A (leaving env (.ref e)) Q E s:=by
 unfold leaving
 exact wpAny_bind (MT hfr hl hf he hc hd h1 h2 hO hn fun h' a b=>qP (s:={s with heap:=h'}) b fun h'' a' b'=>k h'' (a.trans a') b')
theorem Mh(hfr:A.frames=some (env::outer))(hl:s.heap.FunFrames base (env::outer))(hf:env.frame=some L)(F:Fly O s.heap e cls .none)
  (k:∀h',Kp O (frs (env::outer)) s.heap h'->Fly O h' e cls .none->Q () {s with heap:=h'}):wpAny M A (leaving env (.ref e)) Q E s:=by
 unfold leaving
 exact wpAny_bind (G7 hfr hl hf F fun h' a b=>qP (s:={s with heap:=h'}) b fun h'' a' b'=>k h'' (a.trans a') b')
end
noncomputable def CX1(P:Program)(w:World):CXT:=fun outer H s E e s'=>∃(O:Addr->Prop) (ea:Addr) (cls:Value) (H':Hp),e = .ref ea/\s'.os=s.os/\AllBare s'.gens/\Un (frs outer) [] H H' s.heap s'.heap/\HOk P w H' s'.heap /\
 (∀b o,s.heap.get? b=some o->O b)/\(∀b,H' b≠none->O b)/\Fly O s'.heap ea cls .none/\E cls none H'
theorem Un.fly{fs:List Addr}{L:Addr}{H H':Hp}{h h1 h2:Heap}{O:Addr->Prop}(u:Un fs [] H H' h h1)(k:Kp O (L::fs) h1 h2)(hO:∀b o,h.get? b=some o->O b)(hL:∀o,h.get? L≠some o)(hd:∀b∈fs,∀o,h1.get? b=some o->∀vs,o.data≠.fields vs):Un fs [] H H' h h2 where
 keep:=fun b o e n f x=>k.keep b o (u.keep b o e n f x) (hO b o e) fun z=>by
  rcases List.mem_cons.mp z with z|z
  ·exact hL o (by rw[<- z];exact e)
  ·exact f z
 slot:=fun b o e n f x=>by
  obtain⟨sl,e1⟩:=u.slot b o e n f x
  obtain⟨sl',e2⟩:=k.slot b _ e1 (hd b f _ e1)
  exact⟨sl',e2⟩
 free:=u.free
 there:=fun b o e x=>by
  obtain⟨o1,e1⟩:=u.there b o e x
  by_cases f:b∈fs
  ·obtain⟨sl,e2⟩:=k.slot b _ e1 (hd b f _ e1)
   exact⟨_,e2⟩
  ·exact⟨o1,k.keep b o1 e1 (hO b o e) fun z=>by
    rcases List.mem_cons.mp z with z|z
    ·exact hL o (by rw[<- z];exact e)
    ·exact f z⟩
 yk:=u.yk
 xK:=u.xK
 xJ:=u.xJ
theorem HOk.fly{P:Program}{w:World}{H:Hp}{h h1:Heap}{O:Addr->Prop}{fs:List Addr}(x:HOk P w H h)(k:Kp O fs h h1)(hO:∀b,H b≠none->O b)(hf:∀b∈fs,H b=none):HOk P w H h1:=fun a o e=>by
 refine (x a o e).Bi (fun b u hb q=>?_) (fun _ q=>q) fun _ _ q=>q
 have hb':H b≠none:=by
  rcases hb with rfl|hb
  ·rw[e];exact fun z=>nomatch z
  ·rw[hb];exact fun z=>nomatch z
 exact k.keep b u q (hO b hb') fun z=>hb' (hf b z)
theorem OV{P:Program}{w:World}{H:Hp}{h:Heap}{a:Addr}{o:HO}(x:qo P w H h a o):∃u,h.get? a=some u:=by
 cases o with
 |lst xs=>obtain⟨_,_,_,_,e⟩:=x;exact⟨_,e⟩
 |tup xs=>obtain⟨_,_,_,_,e,_⟩:=x;exact⟨_,e⟩
 |dK kvs=>obtain⟨_,_,_,_,_,_,_,e,_⟩:=x;exact⟨_,e⟩
 |dT kvs=>obtain⟨_,_,_,_,_,_,_,e,_⟩:=x;exact⟨_,e⟩
 |set S n=>obtain⟨_,_,_,_,e,_⟩:=x;exact⟨_,e⟩
 |ins C dx fs=>obtain⟨_,_,_,e,_⟩:=x;exact⟨_,e⟩
 |own y=>exact x
 |xd fs=>obtain⟨_,⟨_,_,_,e,_⟩,_⟩:=x;exact⟨_,e⟩
 |rng lo hi=>obtain⟨_,_,_,e⟩:=x;exact⟨_,e⟩
 |frz ob u=>obtain⟨e,_⟩:=x;exact⟨_,e⟩
 |tbl ps=>exact⟨_,(show h.get? a=some _ from x)⟩
 |met f y=>exact⟨_,(show h.get? a=some _ from x)⟩
 |ext φ=>obtain⟨_,e,_⟩:=x;exact e
section
variable {X:Cx}{pins:List (Addr×Obj)}{Z:St}{H:Hp}{s:Shared}{O:Addr->Prop}{ea:Addr}{cls:Value}{E:XK}{base:Heap}
structure Frm(X:Cx):Prop where
 stk:X.stack=X.env::X.outer
 fr:X.env.frame=some X.env.locals
 ex:X.ex=[]
theorem AU(hF:Frm X):frs (X.env::X.outer)=X.env.locals::X.fs:=by
 unfold Cx.fs frs
 rw[filterMap_cons,hF.fr]
theorem JG(I:Inv X pins Z H s):∀b∈X.fs,∀o,s.heap.get? b=some o->∀vs,o.data≠.fields vs:=fun b hb o e vs=>by
 obtain⟨_,o',e',d⟩:=I.yU.mem hb
 rw[e] at e'
 rw[Option.some.inj e']
 exact d vs
theorem OG(I:Inv X pins Z H s):∀o,X.dL.heap.get? X.env.locals≠some o:=fun o e=>absurd (Heap.lt_size e) (Nat.not_lt.mpr I.ok.above)
theorem J3(hF:Frm X)(I:Inv X pins Z H s):∀b∈frs (X.env::X.outer),H b=none:=fun b hb=>by
 rw[AU hF] at hb
 rcases List.mem_cons.mp hb with e|hb
 ·rw[e];exact I.free
 ·exact I.xw b (by rw[hF.stk,AU hF];exact mem_cons_of_mem _ hb)
theorem BV(hF:Frm X)(I:Inv X pins Z H s):s.heap.FunFrames X.base (X.env::X.outer):=by
 have:=I.stack
 rw[hF.stk] at this
 exact this
theorem Ru(hF:Frm X)(I:Inv X pins Z H s)(hO:∀b o,X.dL.heap.get? b=some o->O b)(ht:∀b,H b≠none->O b){h':Heap}(k:Kp O (frs (X.env::X.outer)) s.heap h')(F:Fly O h' ea cls .none)(q:E cls none H) :
  CX1 X.prog X.w X.outer X.H₀ X.dL E (.ref ea) {s with heap:=h'}:=by
 refine⟨O,ea,cls,H,rfl,I.os,I.bare,?_,HOk.fly I.hok k ht (J3 hF I),hO,ht,F,q⟩
 rw[AU hF] at k
 have u:=I.base
 rw[hF.ex] at u
 exact Un.fly u k hO (OG I) (JG I)
theorem leave_new{vs:List Value}{h1:Heap}{Qe:Value->Shared->Prop}(hF:Frm X)(I:Inv X pins Z H s)(hx:Heap.MadeExcOf s.heap h1 ea cls vs)(q:E cls none H) :
  wpAny (model X.prog X.w) X.A (leaving X.env (.ref ea)) (fun _ s''=>CX1 X.prog X.w X.outer X.H₀ X.dL E (.ref ea) s'') Qe {s with heap:=h1}:=by
 obtain⟨t,he,_,_⟩:=hx.there
 have I1:Inv X pins Z H {s with heap:=h1}:=I.kept (t':=s.toks) hx.keeps
 have fr:X.A.frames=some (X.env::X.outer):=by rw[<- hF.stk];exact I.ok.frames
 have kp:Kp (fun b=>∃o,s.heap.get? b=some o) (frs (X.env::X.outer)) s.heap h1:=.of hx.keeps
 refine Lq (O:=fun b=>∃o,s.heap.get? b=some o) (s:={s with heap:=h1}) fr (BV hF I1) hF.fr he rfl rfl rfl rfl (fun b ⟨o,e⟩=>Heap.lt_size (hx.keeps b o e)) (fun ⟨o,e⟩=>by rw[hx.new] at e;cases e) fun h' k F=>?_
 have e:=Ru (s:=s) (X:=X) hF I (fun b o e=>I.base.there b o e (by rw[hF.ex];exact fun z=>nomatch z)) (fun b hb=>by
  cases z:H b with
  |none=>exact absurd z hb
  |some o=>exact OV (I.hok b o z)) (kp.trans k) F q
 exact e
end
structure XOk(X:Cx)(E:XK):Prop where
 new:∀(pins:List (Addr×Obj)) (Z:St) (H:Hp) (s:Shared) (ea:Addr) (cls:Value) (vs:List Value) (h1:Heap),Inv X pins Z H s->Heap.MadeExcOf s.heap h1 ea cls vs->E cls none H->X.xe (.ref ea) {s with heap:=h1}
 pas:Passes (CX1 X.prog X.w) X E
theorem Ha{X:Cx}{pins:List (Addr×Obj)}{Z:St}{H:Hp}{s s':Shared}{E:XK}{e:Value}{Qe:Value->Shared->Prop}(hF:Frm X)(I:Inv X pins Z H s)(h:CX1 X.prog X.w X.stack H s E e s') :
  wpAny (model X.prog X.w) X.A (leaving X.env e) (fun _ s''=>CX1 X.prog X.w X.outer X.H₀ X.dL E e s'') Qe s':=by
 obtain⟨O,ea,cls,H',rfl,os,bare,un,hok,hO,ht,F,q⟩:=h
 have I':Inv X pins Z H' s':=I.DU (ch:=[]) os un hok bare (fun b z=>nomatch z)
 have fr:X.A.frames=some (X.env::X.outer):=by rw[<- hF.stk];exact I.ok.frames
 refine Mh (s:=s') fr (BV hF I') hF.fr F fun h' k F'=>?_
 exact Ru (s:=s') hF I' (fun b o e=>by
  obtain⟨o',e'⟩:=I.base.there b o e (by rw[hF.ex];exact fun z=>nomatch z)
  exact hO b o' e') ht k F' q
theorem gH{P:Program}{w:World}{K:PySem.W.Frag}{mg:Str->Option Value}{base:Heap}{N:List Str}{qual:Str}{scope:Scope}{f:Addr}{cd:Value}{A:Around}{outer:List Env}{s:Shared}{H:Hp}{E:XK} :
  XOk (rQ (CX1 P w) P w K mg base N qual scope f cd A outer s H E) E where
 new:=fun pins Z H1 s1 ea cls vs h1 I hx q=>leave_new (X:=rQ (CX1 P w) P w K mg base N qual scope f cd A outer s H E) ⟨rfl,rfl,rfl⟩ I hx q
 pas:=fun pins Z H1 s1 e s' I h=>Ha (X:=rQ (CX1 P w) P w K mg base N qual scope f cd A outer s H E) ⟨rfl,rfl,rfl⟩ I h
abbrev DTX:=Rho->Mu->(Mu->Prop)->Prop
abbrev XSp:=List D->Mu->(Mu->Prop)->Prop
noncomputable def Nw(K:PySem.W.Frag)(E:XK)(C:Value)(U:Mu)(H:Hp)(Xk:Mu->Prop):Prop:=∀Y H',Ext K U H Y H'->dj K Y H'->Xk Y->E C none H'
theorem Nw.on{K:PySem.W.Frag}{E:XK}{C:Value}{U ac:Mu}{H H1:Hp}{Xk:Mu->Prop}(w:Nw K E C U H Xk)(e:Ext K U H ac H1):Nw K E C ac H1 Xk:=fun Y H' e'=>w Y H' (e.trans e')
noncomputable def XE(X:Cx)(E:XK)(C:Value)(e:Expr)(tx:DTX):Prop:=∃t:TE,PE X e t/\∀Z H ρ U Xk Q,St0 X.K H ρ U Z->tx ρ U Xk->Nw X.K E C U H Xk->t Z H Q
noncomputable def XS(X:Cx)(E:XK)(C:Value)(st:Stmt)(tx:DTX):Prop:=∃t:TS,PS X st t/\∀Z H ρ U Xk D,St0 X.K H ρ U Z->tx ρ U Xk->Nw X.K E C U H Xk->t D Z H
noncomputable def XSs(X:Cx)(E:XK)(C:Value)(st:List Stmt)(tx:DTX):Prop:=∃t:TS,PSs X st t/\∀Z H ρ U Xk D,St0 X.K H ρ U Z->tx ρ U Xk->Nw X.K E C U H Xk->t D Z H
noncomputable def spX(K:PySem.W.Frag)(C:Value)(dsp:XSp):Sp:=fun vs H _ E=>∃(ds:List D) (U:Mu) (Xk:Mu->Prop),dj K U H/\n5 K U H ds vs/\dsp ds U Xk/\Nw K E C U H Xk
section
variable {X:Cx}{E:XK}{C:Value}{e:Expr}{es:List Expr}{t:DTA}{te:DTE}{tx ty:DTX}{p pos:Pos}{x:Str}{k:Nat}{f:Addr}{fd:FuncData}{ps:List Str}{dsp:XSp}{st:Stmt}{sts:List Stmt}
noncomputable def fe(dsp:XSp)(t:DTA):DTX:=fun ρ U Xk=>t ρ U fun ds ac=>dsp ds ac Xk
theorem cK(F:bO X.prog X.w X.K X.mg X.base (CX1 X.prog X.w) k f fd ps (spX X.K C dsp))(hr:j5 k X.A)(hg:Gl X x)(hm:X.mg x=some (.ref f))(hk:keepIn X.K (.ref f)=true)(hb:Binds X.K fd ps [])(hx:XOk X E)
  (ha:DA X (e::es) t) (hdb:(x==("__debug__":Str))=false:=by decide) (he:starEach (e::es) X.env=(false,eval e X.env)::starEach es X.env:=by rfl) (hpl:(backTo pos (starEach es X.env)).any (·.1)=false:=by rfl) :
  XE X E C (.Call (.Name x p) (e::es) [] pos) (fe dsp t):=by
 obtain⟨t1,p1,l1⟩:=ha
 refine⟨_,NV F hr hg hm hk hb .nil hx.pas p1 hdb he hpl,fun Z H ρ U Xk Q S h wsh=>?_⟩
 refine l1 Z H ρ U _ _ S h fun ds us ac H1 e1 S1 rs len h1=>?_
 exact⟨ds,ac,Xk,S1.mu,by rw[List.append_nil];exact rs,h1,wsh.on e1⟩
theorem nO(h:XE X E C e tx)(hs:swapsWith e none pos.line X.env=pure false:=by rfl):XS X E C (.Expr e pos) tx:=by
 obtain⟨t1,p1,l1⟩:=h
 exact⟨_,OC p1 hs,fun Z H ρ U Xk D S h wsh=>l1 Z H ρ U Xk _ S h wsh⟩
noncomputable def BG:DTX:=fun _ _ _=>False
theorem sZ:XSs X E C sts BG:=⟨_,G9,fun _ _ _ _ _ _ _ h _=>h.elim⟩
noncomputable def xIf(tc:DTT)(tx ty:DTX):DTX:=fun ρ U Xk=>tc ρ U fun b ac=>if b=true then tx ρ ac Xk else ty ρ ac Xk
theorem JW{c:Expr}{a b:List Stmt}{tc:DTT}(hc:DT X c tc)(ha:XSs X E C a tx)(hb:XSs X E C b ty):XS X E C (.If c a b pos) (xIf tc tx ty):=by
 obtain⟨t0,p0,l0⟩:=hc
 obtain⟨t1,p1,l1⟩:=ha
 obtain⟨t2,p2,l2⟩:=hb
 refine⟨_,Um p0 p1 p2,fun Z H ρ U Xk D S h wsh=>?_⟩
 refine l0 Z H ρ U _ _ S h fun c ac H1 e1 S1 h1=>?_
 cases c with
 |true=>exact BX (l1 Z H1 ρ ac Xk D S1 (by simpa using h1) (wsh.on e1))
 |false=>exact Df (l2 Z H1 ρ ac Xk D S1 (by simpa using h1) (wsh.on e1))
theorem df(h:XS X E C st tx):XSs X E C (st::sts) tx:=by
 obtain⟨t1,p1,l1⟩:=h
 exact⟨_,Fq p1 G9,fun Z H ρ U Xk D S h wsh=>l1 Z H ρ U Xk _ S h wsh⟩
noncomputable def As(td:DTS)(tx:DTX):DTX:=fun ρ U Xk=>td {nx:=fun am Y=>tx am Y Xk,rt:=fun _ _=>False} ρ U
theorem gR{td:DTS}(h:DS X st td)(hr:XSs X E C sts tx):XSs X E C (st::sts) (As td tx):=by
 obtain⟨t1,p1,l1⟩:=h
 obtain⟨t2,p2,l2⟩:=hr
 refine⟨_,Fq p1 p2,fun Z H ρ U Xk D S h wsh=>?_⟩
 refine l1 Z H ρ U _ _ S h (fun al am Y H' e' S' q=>?_) (fun d u Y H' e' ok r q=>q.elim) (fun al am Y H' e' S' q=>q.elim) (fun al am Y H' e' S' q=>q.elim)
 exact l2 al H' am Y Xk D S' q (wsh.on e')
end
theorem _root_.L2.Fun.okX{P:Program}{w:World}{K:PySem.W.Frag}{mg:Str->Option Value}{base:Heap}{x qual:Str}{st:Stmt}{f:Addr}{fd:FuncData}{N ps:List Str}{k:Nat}{C:Value}{dsp:XSp}(F:Fun K x qual st f fd)(S:aN N ps (aC st))(len:∀ds U Xk,dsp ds U Xk->ds.length=ps.length)
  (hbody:∀(cdv:Value) (A:Around) (outer:List Env) (s:Shared) (H:Hp) (E:XK),j5 k (A.deeper (envOfC qual (aC st) s.heap.objs.size f cdv)) ->
   ∃tx,XSs (rQ (CX1 P w) P w K mg base N qual (aC st) f cdv A outer s H E) E C (iL st) tx/\∀ds U Xk,dsp ds U Xk->tx (aS N ds) U Xk):bO P w K mg base (CX1 P w) (k+1) f fd ps (spX K C dsp):=by
 obtain⟨oc,od,kV,doc,pm,an,cdv,ct,osl,rfl,lk,hcd⟩:=F.ex
 refine R7 lk hcd S (fun vs H Q E h=>?_) fun A outer s H vs Q E hr hsp=>?_
 ·obtain⟨ds,U,Xk,_,r,h,_⟩:=h
  rw[<- r.length];exact len ds U Xk h
 ·obtain⟨tx,⟨t,p,l⟩,q⟩:=hbody cdv A outer s H E hr
  obtain⟨ds,U,Xk,ok,r,h,wsh⟩:=hsp
  exact⟨t,p,l (start N vs) H (aS N ds) U Xk _ ⟨ok,BK r⟩ (q ds U Xk h) wsh⟩
theorem Td{K:PySem.W.Frag}{h:Heap}{C:Addr}{bmB:List Value}{newId:String}(X:K.In h)(q:excIn K C bmB newId=true) :
  ∃bm N nm q bs hdct sn sub ab col dd k0 k1 k2 k3 k5 mN,h.get? C=some (excClassObj nm q C N bs bm hdct sn sub ab col dd k0 k1 k2 k3 k5 newId)/\h.Ns N mN/\mN "__init__"=none/\OwnTail h bmB bm:=by
 unfold excIn at q
 split at q;rotate_left;· cases q
 rename_i dd cd sl ho;split at q;rotate_left;· cases q
 rename_i C' bm k0 k1 k2 k3 n k5 hm hs
 simp only[and_eq_true,beq_iff_eq,Bool.not_eq_true'] at q;obtain⟨⟨⟨⟨⟨rfl,rfl⟩,hdel⟩,ht⟩,hok⟩,hni⟩:=q
 obtain⟨nm,bs,mro,ns,qn,hd,sn,sub,ab,col,del⟩:=cd;dsimp only at hm hdel hok hni;subst hm hdel
 obtain rfl:sl = #[k0,k1,k2,k3,some (.builtin n),k5]:=by obtain⟨l⟩:=sl;exact congrArg Array.mk hs
 exact⟨bm,ns,nm,qn,bs,hd,sn,sub,ab,col,dd,k0,k1,k2,k3,k5,_,X _ _ ho,.of_isNs (PySem.W.isNs_of_in X hok),PySem.W.nsMap_none_of_in X hok hni,PySem.W.tail_of_in X ht⟩
section
variable {X:Cx}{E:XK}{x:Str}{C:Addr}
theorem wU{txt:Str}{j}{np kp cpos pos:Pos}(hx:XOk X E)(hg:Gl X x)(hm:X.mg x=some (.ref C))(hq:excIn X.K C bmV "ValueError.__new__"=true)(hc:X.calm=true:=by rfl)(hdb:(x==("__debug__":Str))=false:=by decide)
  (hs:starEach [.Constant (.str txt) j kp] X.env=[(false,eval (.Constant (.str txt) j kp) X.env)]:=by rfl) :
  XS X E (.ref C) (.Raise (some (.Call (.Name x np) [.Constant (.str txt) j kp] [] cpos)) none pos) (fun _ U Xk=>Xk U):=by
 refine⟨fun D Z H=>E (.ref C) none H,fun pins s Z H D I h=>?_,fun Z H ρ U Xk D S h wsh=>wsh U H .refl S.mu h⟩
 obtain⟨tl,N,nm,q,bs,hdct,sn,sub,ab,col,dd,k0,k1,k2,k3,k5,mN,hC,hN,hni,T⟩:=Td I.mod.kin hq
 refine wpAny_Raise_call_subT (C:=C) (nm:=nm) (q:=q) (N:=N) (bs:=bs) (bm:=tl) (hdct:=hdct) (sn:=sn) (sub:=sub) (ab:=ab) (col:=col) (dd:=dd) (k0:=k0) (k1:=k1) (k2:=k2) (k3:=k3) (k5:=k5)
  PySem.F.excBase_ValueError (mN:=mN) (T.hasType PySem.F.excBase_ValueError.hasBase) (I.ok.hd hc) (by rw[hs];rfl) hni (Ac I hg hm ⟨rfl,?_⟩ hdb)
 have pa:=kX (X:=X) (es:=[]) (Qw (x:=txt) (j:=j) (pos:=kp)) we (by rw[hs];rfl) cpos pins s Z H (fun vs H1=>vs.length=1/\H1=H) I ⟨rfl,rfl⟩
 rw[hs] at pa ⊢
 refine Calls.evalArgs_plain (thn pa fun us s2 ⟨vs,H1,I1,r,l,e1⟩=>?_)
 subst e1
 exact⟨rfl,by rw[<- r.length,l];decide,I1.bk _ _ hC,hN.keeps I1.bk,T.keeps I1.bk,fun h' e hm'=>hx.new pins Z H1 s2 e _ _ h' I1 hm' h⟩
end
structure zf(K:PySem.W.Frag)(C:Addr):Prop where
 ga:findIn K (.ref C) "__getattribute__"=some (some (.builtin "BaseException.__getattribute__"))
 gx:findIn K (.ref C) "__getattr__"=some none
 cl:findIn K (.ref C) "__class__"=some (some (.builtin "object.__class__"))
 ob:mroIn K C (.type "object")=some true
 be:mroIn K C (.type "BaseException")=some true
 ci:(clsIn K C).isSome=true
section
variable {prog:Program}{w:World}{A:Around}{E:Value->Shared->Prop}{h:Heap}{g:Array GenState}{d:Drawn}{t:Nat}{os:OsState}{a C:Addr}{o:Obj}{K:PySem.W.Frag}
theorem TJ{R:Result->Shared->Prop}(X:K.In h)(ZY:zf K C)(hx:h.get? a=some o)(hc:o.cls = .ref C)(hq:R (.ok (.ret (.ref C))) ⟨h,g,d,t,os⟩) :
  codeAny (model prog w) A (.call (.builtin "getset_descriptor.__get__") ⟨[.builtin "object.__class__",.ref a,.ref C],[]⟩) R ⟨h,g,d,t,os⟩:=by
 have hT5:(⟨h,g,d,t,os⟩:Shared).TypeIs (.builtin "object.__class__") "getset_descriptor":=F.typeOf_object_class
 have sub:∀{A':Around} {Q':Bool->Shared->Prop} {E':Value->Shared->Prop} {g' d' t' os'},Q' true ⟨h,g',d',t',os'⟩->wpAny (model prog w) A' (isSubtype (.ref C) (.type (".".intercalate ("object.__class__".cutAt '.').dropLast))) Q' E' ⟨h,g',d',t',os'⟩:=fun q=>by
  rw[F.owner_object_class];exact (PySem.W.looks_mroIn X ZY.ob).here q
 refine codeAny_call_builtin F.slot_gs_get.plain F.entry_gs_get (F.slot_gs_get.check _ _ _ _ _ _ _ _ hT5 (F.args_gs_get _ _ _) ?_)
 repeat (any_goals (first|assumption|(with_reducible refine wpAny_loadPart_at hx ?_;rw[hc])|with_reducible refine sub ?_|wp_step))
 refine⟨Code.quiet_builtin _ nofun,codeAny_builtin F.entry_object_class ?_⟩
 repeat (any_goals (first|assumption|(with_reducible refine wpAny_loadPart_at hx ?_;rw[hc])|wp_step))
theorem Po{tk:Tok}{Q:Fin->Shared->Prop}(X:K.In h)(ZY:zf K C)(hx:h.get? a=some o)(hc:o.cls = .ref C)(hq:Q (.done (.ret (.ref C))) ⟨h,g,d,t,os⟩) :
  wpAny (model prog w) A (Builtin.«object.__getattribute__» ⟨[.ref a,.str "__class__" tk],[]⟩) Q E ⟨h,g,d,t,os⟩:=by
 have hT5:(⟨h,g,d,t,os⟩:Shared).TypeIs (.builtin "object.__class__") "getset_descriptor":=F.typeOf_object_class
 have f5:=F.typeOf_object_class;have f6:=F.slot_gs_get.lookup;have f7:=F.slot_gs_set.lookup
 have lk:∀{A':Around} {Q':Option Value->Shared->Prop} {E':Value->Shared->Prop} {g' d' t' os'},Q' (some (.builtin "object.__class__")) ⟨h,g',d',t',os'⟩->wpAny (model prog w) A' (typeLookup (.ref C) "__class__") Q' E' ⟨h,g',d',t',os'⟩:=fun q=>(PySem.W.looks_findIn X ZY.cl).here q
 repeat (any_goals (first|assumption|(with_reducible refine wpAny_loadPart_at hx ?_;rw[hc])|with_reducible refine lk ?_|wp_step))
 refine TJ X ZY hx hc ?_
 repeat (any_goals (first|assumption|wp_step))
theorem O6{nv:Value}{Q:Unit->Shared->Prop}(X:K.In h)(ZY:zf K C)(hx:h.get? a=some o)(hc:o.cls = .ref C)(hq:Q () ⟨h,g,d,t,os⟩):wpAny (model prog w) A (checkBuiltinCall "BaseException.__getattribute__" ⟨[.ref a,nv],[]⟩) Q E ⟨h,g,d,t,os⟩:=by
 have hk:builtinKind "BaseException.__getattribute__"=some .slot:=nofun
 have hsp:splitId "BaseException.__getattribute__"=some ("BaseException","__getattribute__"):=nofun
 have ha:=F.args_bexc_ga (.ref a) nv
 have sub:∀{A':Around} {Q':Bool->Shared->Prop} {E':Value->Shared->Prop} {g' d' t' os'},Q' true ⟨h,g',d',t',os'⟩->wpAny (model prog w) A' (isSubtype (.ref C) (.type "BaseException")) Q' E' ⟨h,g',d',t',os'⟩:=fun q=>(PySem.W.looks_mroIn X ZY.be).here q
 simp only[checkBuiltinCall,hk,hsp]
 refine wpAny_bind ?_
 unfold isInstance
 repeat (first|(with_reducible refine wpAny_loadPart_at hx ?_;rw[hc])|with_reducible refine sub ?_|wp_step)
 exact hq
theorem QH{tk:Tok}{R:Result->Shared->Prop}(X:K.In h)(ZY:zf K C)(hx:h.get? a=some o)(hc:o.cls = .ref C)(hq:R (.ok (.ret (.ref C))) ⟨h,g,d,t,os⟩) :
  codeAny (model prog w) A (.call (.builtin "BaseException.__getattribute__") ⟨[.ref a,.str "__class__" tk],[]⟩) R ⟨h,g,d,t,os⟩:=
 codeAny_call_builtin F.attr_ValueError.ga.plain F.entry_bexc_ga (O6 X ZY hx hc (Po X ZY hx hc hq))
theorem UZ{tk:Tok}{Q:Value->Shared->Prop}(X:K.In h)(ZY:zf K C)(hx:h.get? a=some o)(hc:o.cls = .ref C)(hq:Q (.ref C) ⟨h,g,d,t,os⟩):wpAny (model prog w) A (getAttrBy (.ref a) (.str "__class__" tk) false) Q E ⟨h,g,d,t,os⟩:=by
 have f3:=F.attr_ValueError.ga.bind (.ref a)
 have hx2:(Value.builtin "BaseException.__getattribute__"==Value.builtin "object.__getattribute__")=false:=nofun
 have hx1:(onTheHeap (Value.ref C)&&Value.builtin "BaseException.__getattribute__"==Value.builtin "object.__getattribute__")=false:=by rw[hx2];rfl
 have lk:∀{A':Around} {Q':Option Value->Shared->Prop} {E':Value->Shared->Prop} {g' d' t' os'},Q' (some (.builtin "BaseException.__getattribute__")) ⟨h,g',d',t',os'⟩->wpAny (model prog w) A' (typeLookup (.ref C) "__getattribute__") Q' E' ⟨h,g',d',t',os'⟩:=fun q=>(PySem.W.looks_findIn X ZY.ga).here q
 have lx:∀{A':Around} {Q':Option Value->Shared->Prop} {E':Value->Shared->Prop} {g' d' t' os'},Q' none ⟨h,g',d',t',os'⟩->wpAny (model prog w) A' (typeLookup (.ref C) "__getattr__") Q' E' ⟨h,g',d',t',os'⟩:=fun q=>(PySem.W.looks_findIn X ZY.gx).here q
 repeat (any_goals (first|assumption|(with_reducible refine wpAny_loadPart_at hx ?_;rw[hc])|with_reducible refine lk ?_|with_reducible refine lx ?_|wp_step))
 refine QH X ZY hx hc ?_
 repeat (any_goals (first|assumption|wp_step))
theorem QC{Q:Option Value->Shared->Prop}(X:K.In h)(ZY:zf K C)(hx:h.get? a=some o)(hc:o.cls = .ref C)(hq:Q (some (.ref C)) ⟨h,g,d,t+1,os⟩):wpAny (model prog w) A (getAttr? (.ref a) "__class__") Q E ⟨h,g,d,t,os⟩:=by
 unfold getAttr? getAttrBy?
 repeat (any_goals (first|assumption|with_reducible apply UZ X ZY hx hc|wp_step))
theorem Rl(ZY:zf K C):PySem.W.KitX K (.ref a) (.ref C) (fun h=>∃o,h.get? a=some o/\o.cls = .ref C) where
 ty:=fun M h X ⟨o,e,c⟩=>by
  intro A' Q' E' s' k q
  unfold typeOf
  refine wpAny_bind (wpAny_loadPart (k _ _ e) ?_)
  rw[c]
  exact wpAny_pure q
 it:=fun M h X _=>by
  have z:=ZY.ci
  unfold clsIn at z
  split at z
  ·rename_i ho
   intro A' Q' E' s' k q
   unfold isType loadHead
   exact wpAny_bind (wpAny_loadPart (k _ _ (X _ _ ho)) (wpAny_pure q))
  ·cases z
 ne:=fun h tp dd its n sl X htp=>by
  refine Bool.eq_false_iff.mpr fun q=>?_
  obtain rfl:C=tp:=Value.ref.inj (beq_iff_eq.mp q)
  have z:=ZY.ci
  unfold clsIn at z
  split at z
  ·rename_i ho;have z':=(X _ _ ho).symm.trans htp;cases z'
  ·cases z
 ca:=fun {_ _ _ _ _ s} X ⟨o,e,c⟩ k=>by obtain⟨h,g,d,t,os⟩:=s;exact QC X ZY e c k
end
theorem Sb{K:PySem.W.Frag}{h:Heap}{c P:Addr}{o:Obj}{q:Str}(X:K.In h)(l:K.lookup c=some o)(e:cX o=some (P,q))(ne:c≠P):PySem.W.CodeHd h c P:=by
 have ho:=X _ _ l
 unfold cX at e
 split at e
 ·rename_i cn vs hcls hd
  split at e
  ·rename_i hcn
   subst hcn
   split at e
   ·rename_i q' t' f1 f2 f3 f4 f5 f6 P' f7 f8 e1 e7 e9 e10 e11 e18
    split at e
    ·cases e
     refine⟨o,vs,f7,f8,f2,f3,f4,f5,f6,ho,hcls,hd,e11,?_,?_,?_,?_,?_,ne⟩
     ·rw[Array.getD_eq_getD_getElem?,e11];rfl
     ·rw[Array.getD_eq_getD_getElem?,e18];rfl
     ·rw[Array.getD_eq_getD_getElem?,e7];rfl
     ·rw[Array.getD_eq_getD_getElem?,e9];rfl
     ·rw[Array.getD_eq_getD_getElem?,e10];rfl
    ·cases e
   ·cases e
  ·cases e
 ·cases e
noncomputable def Vo(K:PySem.W.Frag)(mg:Str->Option Value):Prop:=∃bm ob,mg "__builtins__"=some (.ref bm)/\bm≠builtinsNs/\K.lookup bm=some ob/\ob.cls = .type "module"/\ob.dict=some builtinsNs/\ob.data = .plain
theorem Pw{pos:Pos}{w:Value}{l3:List Value}:∀{l:List Value},TriplesOk l->codeAmong pos l=some w->codeAmong pos (l++l3)=some w:=by
 intro l
 fun_induction TriplesOk l with
 |case1=>intro _ e;simp[codeAmong] at e
 |case2 a t b u x rest ih=>
  intro h e
  simp only[cons_append,codeAmong] at e ⊢
  split at e
  ·rename_i hc;rw[if_pos hc];exact e
  ·rename_i hc;rw[if_neg hc];exact ih h e
 |case3 l h1 h2=>intro h;exact h.elim
theorem Px{pos lpos:Pos}{cv:Value}{c:Value}:∀{l:List Value},TriplesOk l->codeAmong pos l=none->codeAmong pos (l++[rawInt lpos.line,rawInt lpos.col,c])=some cv->cv=c:=by
 intro l
 fun_induction TriplesOk l with
 |case1=>
  intro _ _ e
  simp only[nil_append,codeAmong,rawInt] at e
  split at e
  ·exact (Option.some.inj e).symm
  ·cases e
 |case2 a t b u x rest ih=>
  intro h n e
  simp only[cons_append,codeAmong] at n e
  split at n
  ·cases n
  ·rename_i hc;rw[if_neg hc] at e;exact ih h n e
 |case3 l h1 h2=>intro h;exact h.elim
section
variable {X:Cx}{pins:List (Addr×Obj)}{Z:St}{H:Hp}{s:Shared}
theorem OS{P c':Addr}{ps:Array Value}{l3:List Value}{h':Heap}{tk:Nat}{φ:Heap->Prop}(I:Inv X pins Z H s)(hP:H P=some (.tbl ps))(hx:Heap.ExtBut P s.heap h')(ht:h'.get? P=some (tabObj (ps++l3.toArray)))(hc:s.heap.objs.size<=c')(wP:φ h')(hc':∃o,h'.get? c'=some o)(hst:∀h1 h2:Heap,φ h1->(∀o,h1.get? c'=some o->h2.get? c'=some o)->φ h2) :
  Inv X pins Z (upd (upd H P (.tbl (ps++l3.toArray))) c' (.ext φ)) {s with heap:=h',toks:=tk}:=by
 have fc:H c'=none:=I.hok.fresh hc
 have nPc:P≠c':=bN hP fc
 have low:∀b o,s.heap.get? b=some o->b≠c':=fun b o e z=>absurd (Heap.lt_size e) (by rw[z];exact Nat.not_lt.mpr hc)
 have old:∀b,b≠P->b≠c'->upd (upd H P (.tbl (ps++l3.toArray))) c' (.ext φ) b=H b:=fun b h1 h2=>by rw[cw h2,cw h1]
 have atP:upd (upd H P (.tbl (ps++l3.toArray))) c' (.ext φ) P=some (.tbl (ps++l3.toArray)):=by rw[cw nPc];exact d9
 refine I.un (t':=tk) ⟨fun b o e n _ _=>hx b o (fun z=>by rw[z,hP] at n;cases n) e,fun b o e n _ _=>⟨o.slots,hx b o (fun z=>by rw[z,hP] at n;cases n) e⟩,fun b o e n _=>?_,fun b o e _=>?_,fun b xs e=>?_,fun b o u e=>?_,fun b qs e=>?_⟩ fun b o e=>?_
 ·rw[old b (fun z=>by rw[z,hP] at n;cases n) (low b o e)];exact n
 ·by_cases z:b=P
  ·exact⟨_,by rw[z];exact ht⟩
  ·exact⟨o,hx b o z e⟩
 ·rw[old b (fun z=>by rw[z,hP] at e;cases e) (bN e fc)];exact e
 ·rw[old b (fun z=>by rw[z,hP] at e;cases e) (bN e fc)];exact e
 ·by_cases z:b=P
  ·rw[z] at e;rw[hP] at e;cases e
   exact⟨l3.toArray,by rw[z];exact atP⟩
  ·exact⟨#[],by rw[old b z (bN e fc)];simpa using e⟩
 ·by_cases zc:b=c'
  ·subst zc
   rw[d9] at e;cases e
   exact⟨wP,hc',hst⟩
  ·by_cases z:b=P
   ·subst z
    rw[atP] at e;cases e
    exact ht
   ·rw[old b z zc] at e
    refine (I.hok b o e).Bi (fun d u hd q=>hx d u ?_ q) (fun d q=>?_) fun d xs q=>?_
    ·rcases hd with rfl|hd
     ·exact z
     ·exact fun y=>by rw[y,hP] at hd;cases hd
    ·rw[old d (fun y=>by rw[y,hP] at q;cases q) (bN q fc)];exact q
    ·rw[old d (fun y=>by rw[y,hP] at q;cases q) (bN q fc)];exact q
theorem RX{K:PySem.W.Frag}{P c':Addr}{ps:Array Value}{q:Str}{lpos:Pos}(t:Gm K H)(hP:H P=some (.tbl ps))(htr:TriplesOk ps.toList)(hcs:∀pos cv,codeAmong pos ps.toList=some cv->∃c,cv = .ref c/\H c=some (.ext (codeAt c (cS q))))(hf:codeAmong lpos ps.toList=none)(fc:H c'=none)
  (hu:∀c2 o2 q2,K.lookup c2=some o2->cX o2=some (P,q2)->q2=q) :
  Gm K (upd (upd H P (.tbl (ps++[rawInt lpos.line,rawInt lpos.col,.ref c'].toArray))) c' (.ext (codeAt c' (cS q)))):=fun c2 o2 P2 q2 l2 e2=>by
 have nPc:P≠c':=bN hP fc
 have old:∀b,b≠P->b≠c'->upd (upd H P (.tbl (ps++[rawInt lpos.line,rawInt lpos.col,.ref c'].toArray))) c' (.ext (codeAt c' (cS q))) b=H b:=fun b h1 h2=>by rw[cw h2,cw h1]
 have cold:∀c qq,H c=some (.ext (codeAt c qq))->upd (upd H P (.tbl (ps++[rawInt lpos.line,rawInt lpos.col,.ref c'].toArray))) c' (.ext (codeAt c' (cS q))) c=some (.ext (codeAt c qq)):=fun c qq h=>by rw[old c (fun z=>by rw[z,hP] at h;cases h) (bN h fc)];exact h
 by_cases z:P2=P
 ·subst z
  obtain rfl:=hu c2 o2 q2 l2 e2
  refine⟨_,by rw[cw nPc];exact d9,by rw[Array.toList_append];exact TriplesOk_snoc _ _ _ _ htr,fun pos cv e=>?_⟩
  rw[Array.toList_append] at e
  cases hp:codeAmong pos ps.toList with
  |some w=>
   obtain⟨c,hw,hc⟩:=hcs pos w hp
   have:codeAmong pos (ps.toList++[rawInt lpos.line,rawInt lpos.col,.ref c'])=some w:=Pw htr hp
   have e':some w=some cv:=this.symm.trans e
   cases e'
   exact⟨c,hw,cold c _ hc⟩
  |none=>
   have:=Px htr hp (show codeAmong pos (ps.toList++[rawInt lpos.line,rawInt lpos.col,.ref c'])=some cv from e)
   exact⟨c',this,d9⟩
 ·obtain⟨qs,a1,a2,a3⟩:=t c2 o2 P2 q2 l2 e2
  exact⟨qs,by rw[old P2 z (bN a1 fc)];exact a1,a2,fun pos cv e=>let ⟨c,w1,w2⟩:=a3 pos cv e;⟨c,w1,cold c _ w2⟩⟩
end
def Bm(lsc:Scope)(cl:List (Str×Addr))(q:Str)(fa c1 L:Addr):Env:={scope:=lsc,locals:=L,globals:=mainGlobals,cells:=cl,qual:=q ++ ".<locals>.",func:=some fa,code:=.ref c1,frame:=some L,builtins:=builtinsNs}
def xV(P:Program)(w:World)(K:PySem.W.Frag)(mg:Str->Option Value)(base:Heap)(N:List Str)(lsc:Scope)(cl:List (Str×Addr))(q:Str)(fa c1:Addr)(A:Around)(outer:List Env)(s:Shared)(H:Hp)(E:XK):Cx where
 prog:=P
 w:=w
 K:=K
 mg:=mg
 base:=base
 A:=A.deeper (Bm lsc cl q fa c1 s.heap.objs.size)
 N:=N
 dL:=s
 H₀:=H
 env:=Bm lsc cl q fa c1 s.heap.objs.size
 outer:=outer
 stack:=Bm lsc cl q fa c1 s.heap.objs.size::outer
 ex:=[]
 calm:=true
 fn:=fun _=>false
 pn:=[]
 xe:=fun e s'=>wpAny (model P w) (A.deeper (Bm lsc cl q fa c1 s.heap.objs.size)) (leaving (Bm lsc cl q fa c1 s.heap.objs.size) e) (fun _ s''=>CX1 P w outer H s E e s'') (fun e' s''=>CX1 P w outer H s E e' s'') s'
section
variable {P:Program}{w:World}{K:PySem.W.Frag}{mg:Str->Option Value}{base:Heap}{N:List Str}{lsc:Scope}{cl:List (Str×Addr)}{q:Str}{fa c1:Addr}{A:Around}{outer:List Env}{s:Shared}{H:Hp}{E:XK}{Z:St}{k:Nat}{params:Arguments}{body:Expr}{pm ctv:Value}{t:TE}
theorem eX:XOk (xV P w K mg base N lsc cl q fa c1 A outer s H E) E where
 new:=fun pins Z H1 s1 ea cls vs h1 I hx qq=>leave_new (X:=xV P w K mg base N lsc cl q fa c1 A outer s H E) ⟨rfl,rfl,rfl⟩ I hx qq
 pas:=fun pins Z H1 s1 e s' I h=>Ha (X:=xV P w K mg base N lsc cl q fa c1 A outer s H E) ⟨rfl,rfl,rfl⟩ I h
structure Clo(lsc:Scope)(cl:List (Str×Addr))(N:List Str)(Z:St)(h:Heap)(H:Hp):Prop where
 cell:∀x c,cl.lookup x=some c->∃v,h.IsCell c v
 free:∀x c,cl.lookup x=some c->H c=none
 inj:∀x y c,cl.lookup x=some c->cl.lookup y=some c->x=y
 has:∀x,lsc.names.lookup x=some .cell\/lsc.names.lookup x=some .free->∃a,cl.lookup x=some a
 vals:∀(i:Nat) (x:Str) (v:V),N[i]? = some x->Z[i]? = some (some v)->Vis lsc x->∃u c,RelV v u/\lsc.names.lookup x=some .free/\cl.lookup x=some c/\h.IsCell c (some u)
 len:Z.length=N.length
theorem Qi{Q:VK}(hk:lsc.kind = .function)(hco:lsc.isCoroutine=false)(hgen:lsc.isGenerator=false)(hcell:∀y∈lsc.names,y.2≠.cell)(hr:j5 (k+1) A)(e0:Lm P w K mg base A outer s H)
  (ho:s.heap.get? fa=some {cls:=.type "function",data:=.func (kla_fn "<lambda>" q params body lsc cl pm (.ref c1) ctv)}) (hcd:H c1=some (.ext (codeAt c1 q))) (hbind:bindArgs (kla_fn "<lambda>" q params body lsc cl pm (.ref c1) ctv) ⟨[],[]⟩=pure [])
  (C:Clo lsc cl N Z s.heap H) (pe:PE (xV P w K mg base N lsc cl q fa c1 A outer s H E) body t) (ht:t Z H Q) :
  codeAny (model P w) A (.call (.ref fa) ⟨[],[]⟩) (CR (CX1 P w) outer P w H s Q E) s:=by
 have crec:s.heap.CodeRec (.ref c1) q:=by
  obtain⟨⟨o,vs,t,g,d,v⟩,_,_⟩:=e0.hok c1 _ hcd
  exact⟨c1,o,vs,t,rfl,g,d,v⟩
 refine PySem.W.kla_callFunE hr.depth ho rfl hco hgen rfl crec ?_
 rw[hbind]
 refine wpAny_pure (wpAny_newFunctionEnv hcell (fun y hy=>nomatch hy) (fun ii hns hsb=>?_) hk)
 have pc:∀b o,s.heap.get? b=some o->ii.get? b=some o:=fun b o e=>hsb.extBut b o (ne_of_lt (Heap.lt_size e)) (Heap.get?_push_of_some _ e)
 have lim:ii.NoLimit:=e0.mod.nolimit.keeps fun b o e=>pc b o (e0.bs b o e).1
 refine⟨lim,?_⟩
 have noA:∀b:Addr,b ∉ (xV P w K mg base N lsc cl q fa c1 A outer s H E).ex:=fun b z=>nomatch z
 have I:Inv (xV P w K mg base N lsc cl q fa c1 A outer s H E) [] Z H {s with heap:=ii,toks:=s.toks+([]:List (Str×Value)).length}:=by
  refine⟨⟨e0.mod,hk,rfl,rfl,le_refl _,C.inj,C.has,fun _ _ z=>(nomatch z),fun _=>hr.hd,.inl hr.hd,Around.frames_deeper e0.frames,.inr ⟨rfl,rfl⟩,fun b z=>absurd z (noA b),e0.bs,e0.bsz,fun b _ _=>noA b,fun b z=>absurd z (noA b),e0.yU,e0.frf⟩,
   rfl,e0.bare,Un.kept pc,⟨_,hns,fun i x v h1 h2 h3=>?_⟩,fun x c h=>?_,e0.hok.fresh (le_refl _),C.free,fun p hp=>(nomatch hp),e0.hok.kept pc,C.len⟩
  ·obtain⟨u,c,r,f1,f2,o,f3,f4⟩:=C.vals i x v h1 h2 h3
   exact⟨u,r,.inr ⟨.inr f1,c,f2,o,pc _ _ f3,f4⟩⟩
  ·obtain⟨v,o,f3,f4⟩:=C.cell x c h
   exact⟨v,o,pc _ _ f3,f4⟩
 show codeAny _ _ (.expr body (Bm lsc cl q fa c1 s.heap.objs.size)) _ _
 refine PySem.W.kla_codeExpr (wpAny_mono (pe [] _ Z H Q I ht) (fun v s' hv=>?_) fun e s' hs=>hs)
 obtain⟨x,H',J,r,qq⟩:=hv
 exact⟨x,H',J.os,J.bare,J.base,J.hok,r,qq⟩
end
def cxH(X:Cx)(ea:Addr)(oe:Obj):Cx:={X with A:=X.A.mark (some (.ref ea)),calm:=false,pn:=(ea,oe)::X.pn,xe:=fun _ _=>False}
section
variable {X:Cx}{pins:List (Addr×Obj)}{Z:St}{H:Hp}{s:Shared}{O:Addr->Prop}{ea:Addr}{oe:Obj}{vs:Array Value}
theorem HI{h':Heap}(hF:Frm X)(I:Inv X pins Z H s)(k:Kp O (frs (X.env::X.outer)) s.heap h')(hO:∀b o,X.dL.heap.get? b=some o->O b)(ht:∀b,H b≠none->O b)(hp:∀p∈X.pn++pins,O p.1):Inv X pins Z H {s with heap:=h'}:=by
 have cellK:∀c v,s.heap.IsCell c v->h'.IsCell c v:=fun c v ⟨o,e,d⟩=>by
  obtain⟨sl,e'⟩:=k.slot c o e fun vs z=>by rw[d] at z;cases z
  exact⟨_,e',d⟩
 refine⟨I.ok,I.os,I.bare,?_,?_,fun x c e=>let ⟨v,q⟩:=I.cell x c e;⟨v,cellK c v q⟩,I.free,I.lJ,fun p hp'=>?_,HOk.fly I.hok k ht (J3 hF I),I.len⟩
 ·have k':=k
  rw[AU hF] at k'
  have u:=I.base
  rw[hF.ex] at u ⊢
  exact Un.fly u k' hO (OG I) (JG I)
 ·obtain⟨m,⟨o,es,ep,e,d,r⟩,hl⟩:=I.loc
  obtain⟨sl,e'⟩:=k.slot _ o e fun vs z=>by rw[d] at z;cases z
  refine⟨m,⟨_,es,ep,e',d,r⟩,fun i x v h1 h2 h3=>?_⟩
  obtain⟨u,ru,lk⟩:=hl i x v h1 h2 h3
  refine⟨u,ru,?_⟩
  rcases lk with z|⟨z,c,z1,z2⟩
  ·exact .inl z
  ·exact .inr ⟨z,c,z1,cellK _ _ z2⟩
 ·obtain⟨a1,a2,a3,a4,a5⟩:=I.pin p hp'
  exact⟨k.keep _ _ a1 (hp p hp') fun z=>by
   rw[AU hF] at z
   rcases List.mem_cons.mp z with z|z
   ·exact a3 z
   ·exact a4 z,a2,a3,a4,a5⟩
theorem XF(I:Inv X pins Z H s)(he:s.heap.get? ea=some oe)(hH:H ea=none)(hL:ea≠X.env.locals)(hfs:ea ∉ X.fs)(hd:oe.data = .fields vs)(h2:vs[2]? = some .none):Inv (cxH X ea oe) pins Z H s:=
 ⟨⟨I.ok.mod,I.ok.kind,I.ok.glob,I.ok.blt,I.ok.above,I.ok.inj,I.ok.has,I.ok.cab,fun z=>(nomatch z),.inr ⟨ea,oe,vs,rfl,mem_cons_self,hd,h2⟩,I.ok.frames,I.ok.stk,I.ok.exf,I.ok.bs,I.ok.bsz,I.ok.Ih,I.ok.R4,I.ok.yU,I.ok.frf⟩,
  I.os,I.bare,I.base,I.loc,I.cell,I.free,I.lJ,fun p hp=>by
   rcases List.mem_cons.mp (show p∈(ea,oe)::(X.pn++pins) from hp) with z|z
   ·rw[z];exact⟨he,hH,hL,hfs,fun v y=>by rw[hd] at y;cases y⟩
   ·exact I.pin p z,I.hok,I.len⟩
theorem RV{h':Heap}{m':Str->Option Value}{tk:Nat}(ok:X.Ok)(I:Inv (cxH X ea oe) pins Z H s)(hn:h'.Ns X.env.locals m')(hs:Heap.SameBut X.env.locals s.heap h')(hx:X.ex=[]):Inv X pins (List.replicate X.N.length none) H {s with heap:=h',toks:=tk}:=by
 have kp:∀b o,b≠X.env.locals->s.heap.get? b=some o->h'.get? b=some o:=fun b o hb e=>(hs.2 b hb).trans e
 have low:∀b o,X.dL.heap.get? b=some o->b≠X.env.locals:=fun b o e=>ne_of_lt (lt_of_lt_of_le (Heap.lt_size e) ok.above)
 have cne:∀x c,X.env.cells.lookup x=some c->c≠X.env.locals:=I.cne
 have u:Un X.fs X.ex X.H₀ H X.dL.heap s.heap:=I.base
 have hneL:∀b∈X.fs,b≠X.env.locals:=fun b hb z=>by
  obtain⟨_,o,e,_⟩:=ok.yU.mem hb
  exact low b o e z
 refine⟨ok,I.os,I.bare,⟨fun b o e n f x=>kp b o (low b o e) (u.keep b o e n f x),fun b o e n f x=>?_,u.free,fun b o e x=>?_,u.yk,u.xK,u.xJ⟩,⟨m',hn,fun i x v h1 h2 h3=>?_⟩,fun x c e=>?_,I.free,I.lJ,fun p hp=>?_,fun b o e=>?_,by simp⟩
 ·obtain⟨sl,e1⟩:=u.slot b o e n f x
  exact⟨sl,kp b _ (low b o e) e1⟩
 ·obtain⟨o1,e1⟩:=u.there b o e x
  exact⟨o1,kp b o1 (low b o e) e1⟩
 ·rw[List.getElem?_replicate] at h2
  split at h2<;>cases h2
 ·obtain⟨v,o,e1,d⟩:=I.cell x c e
  exact⟨v,o,kp c o (cne x c e) e1,d⟩
 ·obtain⟨a1,a2,a3,a4,a5⟩:=I.pin p (mem_cons_of_mem _ hp)
  exact⟨kp _ _ a3 a1,a2,a3,a4,a5⟩
 ·refine (I.hok b o e).Bi (fun d v hd q=>kp d v ?_ q) (fun _ q=>q) fun _ _ q=>q
  have fr:H X.env.locals=none:=I.free
  rintro rfl
  rcases hd with z|z
  ·rw[<- z,fr] at e;cases e
  ·rw[fr] at z;cases z
noncomputable def Yl(X:Cx)(di ni:Nat)(C:Value)(tS:Addr->Obj->TS):TS:=fun D Z H=>∃(fa:Addr) (Good:Hp->Prop),Z[di]? = some (some (.ref fa)) /\
 (∀s1,Inv X [] Z H s1->PySem.W.FnAt fa s1.heap/\codeAny (model X.prog X.w) X.A (.call (.ref fa) ⟨[],[]⟩) (CR (CX1 X.prog X.w) X.stack X.prog X.w H s1 (fun _ _=>False) (fun cls _ H'=>cls=C/\Good H')) s1) /\
 ∀H' ea oe,Good H'->oe.cls=C->H' ea=none->tS ea oe {nx:=fun _ _=>False,rt:=D.rt} (Z.set ni (some (.ref ea))) H'
theorem U3{dn x n:Str}{dp cp ep np hp pos:Pos}{di ni:Nat}{pi:Stmt}{suite:List Stmt}{C FE:Addr}{tS:Addr->Obj->TS}(hF:Frm X)(hpn:X.pn=[])(hNd:X.N.Nodup)(hd:X.N[di]? = some dn)(hv:Vis X.env.scope dn)(hn:X.N[ni]? = some n)(hl:X.env.kindOf n=some .local)(hg:Gl X x)(hm:X.mg x=some (.ref FE))
  (hex:exmOne X.K (.ref C) (.ref FE)=some true) (hs:∀ea oe,PSs (cxH X ea oe) (pi::suite) (tS ea oe)) (hdb:(dn==("__debug__":Str))=false:=by decide) (hdc:(dn==("__classdict__":Str))=false:=by decide) (hxb:(x==("__debug__":Str))=false:=by decide)
  (hsw:swapsWith (.Call (.Name dn dp) [] [] cp) none ep.line X.env=pure false:=by rfl) (pins0:List (Addr×Obj)) (s:Shared) (Z:St) (H:Hp) (D:Ends) (hp0:pins0=[]) (I0:Inv X pins0 Z H s) (h:Yl X di ni (.ref C) tS D Z H) :
  wpAny (model X.prog X.w) X.A (exec (.Try [.Expr (.Call (.Name dn dp) [] [] cp) ep] [.ExceptHandler (some (.Name x np)) (some n) (pi::suite) hp] [] [] pos) X.env) (SP X pins0 D) X.xe s:=by
 subst hp0
 obtain⟨fa,Good,wT,deed,good⟩:=h
 refine wpAny_Try_except (wpAny_execs_cons (wpAny_Expr_any (wpAny_Call_Name_kw (wpAny_mono (L5 (X:=X.nox) hd hv hdb hdc [] s Z H (fun v H1=>v = .ref fa/\H1=H) (I0.DY _) ⟨.ref fa,wT,rfl,rfl⟩) (fun v s1 hv1=>?_) fun _ _ z=>z.elim)) I0.quiet hsw))
 obtain⟨y,H1,I1,r,e1,e2⟩:=hv1
 subst e1 e2
 cases r
 have I1:=I1.uL
 obtain⟨fn,code⟩:=deed s1 I1
 refine PySem.W.callWith_F0 fn (wpAny_call (codeAny_mono code fun r s' hr=>?_))
 cases r with
 |ok fl=>
  cases fl with
  |ret u=>obtain⟨_,_,_,_,_,_,_,z⟩:=hr;exact z.elim
  |next=>exact hr.elim
  |brk=>exact hr.elim
  |cont=>exact hr.elim
 |error e=>
  obtain⟨O,ea,cls,H',rfl,os,bare,un,hok,hO,ht,F,rfl,gd⟩:=hr
  have I':Inv X [] Z H' s':=I1.DU (ch:=[]) os un hok bare (fun b z=>nomatch z)
  have fr:X.A.frames=some (X.env::X.outer):=by rw[<- hF.stk];exact I0.ok.frames
  have hO0:∀b o,X.dL.heap.get? b=some o->O b:=fun b o e=>by
   obtain⟨o',e'⟩:=I1.base.there b o e (by rw[hF.ex];exact fun z=>nomatch z)
   exact hO b o' e'
  have hpp:∀p∈X.pn++([]:List (Addr×Obj)),O p.1:=fun p hp=>by rw[hpn] at hp;exact nomatch hp
  have hLO:O X.env.locals:=by
   obtain⟨m,⟨o,es,ep,e,_⟩,_⟩:=I1.loc
   exact hO _ o e
  refine G7 (s:=s') fr (BV hF I') hF.fr F fun h2 k2 F2=>?_
  have I2:=HI hF I' k2 hO0 ht hpp
  refine qP (s:={s' with heap:=h2}) (fs:=frs (X.env::X.outer)) F2 fun h3 k3 F3=>?_
  have I3:=HI hF I2 k3 hO0 ht hpp
  have keyE:∀{h:Heap} {fl:Value},Fly O h ea (.ref C) fl->∀{s4:Shared},s4.heap=h->Inv X [] Z H' s4->∃oe,oe.cls = .ref C/\s4.heap.get? ea=some oe/\H' ea=none/\Inv (cxH X ea oe) [] Z H' s4:=fun {h fl} G {s4} e4 I4=>by
   obtain⟨_,oe,vs,T,oT,ts,g1,g2,g3,g4,g5,g6,_⟩:=G
   have hH:H' ea=none:=by
    cases z:H' ea with
    |none=>rfl
    |some o=>exact absurd (ht ea (by rw[z];exact fun y=>nomatch y)) g6
   refine⟨oe,g2,by rw[e4];exact g1,hH,XF I4 (by rw[e4];exact g1) hH (fun z=>g6 (by rw[z];exact hLO)) (fun z=>?_) g3 g5⟩
   exact JG I4 ea z oe (by rw[e4];exact g1) vs g3
  obtain⟨oe3,c3,g3,n3,H3⟩:=keyE F3 rfl I3
  refine wpAny_handleBy_cons (codeAny_handlers_test (Ac (X:=cxH X ea oe3) H3 hg hm ?_ hxb)) (by intro z;cases z)
  refine (PySem.W.exm_one (M:=model X.prog X.w) (K:=X.K) (h:=h3) I3.kIn (fun A' Q' E' s4 kk q=>?_) hex).here ?_
  ·have e3:=kk _ _ g3
   unfold typeOf
   refine wpAny_bind (wpAny_loadPart e3 ?_)
   rw[c3]
   exact wpAny_pure q
  ·refine codeAny_handlers_suite_as (qP (s:={s' with heap:=h3}) (fs:=frs (X.env::X.outer)) F3 fun h4 k4 F4=>?_)
   have I4:=HI hF I3 k4 hO0 ht hpp
   obtain⟨oe,c4,g4,n4,H4⟩:=keyE F4 rfl I4
   refine qx (X:=cxH X ea oe) (v:=.ref ea) H4 hNd hn (Or.inl hl) rfl (fun s5 I5=>?_) (Or.inr hl)
   refine wpAny_mono (hs ea oe [] s5 _ H' {nx:=fun _ _=>False,rt:=D.rt} I5 (good H' ea oe gd c4 n4)) (fun f s6 h6=>?_) fun e s6 z=>z.elim
   cases f with
   |next=>obtain⟨_,_,_,z⟩:=h6;exact z.elim
   |brk=>obtain⟨_,_,_,z⟩:=h6;exact z.elim
   |cont=>obtain⟨_,_,_,z⟩:=h6;exact z.elim
   |ret u=>
    obtain⟨v,al,H6,I6,r6,q6⟩:=h6
    obtain⟨m6,hn6,_⟩:=I6.loc
    refine wpAny_nameGoes (env:=X.env) hl hn6 (by rw[I0.ok.kind];rfl) fun h7 m7 hn7 hs7=>?_
    exact⟨v,_,H6,RV I0.ok I6 hn7 hs7 hF.ex,r6,q6⟩
end
theorem XH{CX:CXT}{P:Program}{w:World}{K:PySem.W.Frag}{mg:Str->Option Value}{base:Heap}{k:Nat}{f:Addr}{name qual:Str}{params:Arguments}{body:List Stmt}{scope:Scope}{dV kV doc pm cdv ct oc:Value}{an od:Option Addr}{osl:Array (Option Value)}{N ps:List Str}
  {A:Around} {outer:List Env} {s:Shared} {H:Hp} {args:Args} {us:List Value} {vs:List V} {Q:VK} {E:XK} (lk:K.lookup f=some ⟨oc,od,.func (fnOf name qual params body scope dV kV doc pm an cdv ct),osl⟩) (hcd:codeIn K cdv qual=true) (S:aN N ps scope)
  (hl:vs.length=ps.length) (hr:j5 (k+1) A) (e0:Lm P w K mg base A outer s H) (hb:BindsTo s (fnOf name qual params body scope dV kV doc pm an cdv ct) args (ps.zip us)) (r:Vals vs us)
  (hq:∀s1,Inv (rQ CX P w K mg base N qual scope f cdv A outer s H E) [] (start N vs) H s1->wpAny (model P w) (A.deeper (envOfC qual scope s.heap.objs.size f cdv)) (execs body (envOfC qual scope s.heap.objs.size f cdv)) (SP (rQ CX P w K mg base N qual scope f cdv A outer s H E) [] {nx:=fun _ H'=>Q .non H',rt:=Q}) (rQ CX P w K mg base N qual scope f cdv A outer s H E).xe s1) :
  codeAny (model P w) A (.call (.ref f) args) (CR CX outer P w H s Q E) s:=by
 have KX:K.In s.heap:=e0.mod.kin.keeps fun b o e=>(e0.bs b o e).1
 have lim:s.heap.NoLimit:=e0.mod.nolimit.keeps fun b o e=>(e0.bs b o e).1
 have hkind:∀y∈ps.zip us,scope.names.lookup y.1=some .local\/(scope.names.lookup y.1=some .cell/\((cellsFrom (s.heap.objs.size+1) scope.names []).lookup y.1).isSome=true):=fun ⟨n,v⟩ hy=>by
  rcases S.par n (List.of_mem_zip hy).1 with q|q
  ·exact .inl q
  ·exact .inr ⟨q,PySem.W.cellsFrom_some _ _ _ (.inl q)⟩
 refine codeAny_call_function hr.depth (KX _ _ lk) rfl S.co S.gen rfl (PySem.W.codeRec_of KX hcd) (hb _ _ _ _ ?_)
 refine wpAny_newFunctionEnv_cells S.kind hkind fun env he s1 x=>?_
 subst he
 refine⟨lim.keeps x.toInCall.keep,codeAny_func ?_⟩
 have I:Inv (rQ CX P w K mg base N qual scope f cdv A outer s H E) [] (start N vs) H s1:=Hk S hr.hd e0 hl r x
 refine wpAny_mono (hq s1 I) (fun fl s' hs=>?_) fun e s' hs=>hs
 have fin:∀{al:St} {H':Hp} {v:V} {u:Value},Inv (rQ CX P w K mg base N qual scope f cdv A outer s H E) [] al H' s'->RelV v u->Q v H'->CE outer P w H s Q u s':=
  fun {al H' v u} J rv q=>⟨v,H',J.os,J.bare,J.base,J.hok,rv,q⟩
 cases fl with
 |ret u=>obtain⟨v,al,H',J,rv,q⟩:=hs;exact fin J rv q
 |next=>obtain⟨al,H',J,q⟩:=hs;exact fin (v:=V.non) (u:=Value.none) J rfl q
 |brk=>obtain⟨_,_,_,q⟩:=hs;exact False.elim q
 |cont=>obtain⟨_,_,_,q⟩:=hs;exact False.elim q
structure Cu(P:Program)(w:World)(K:PySem.W.Frag)(mg:Str->Option Value)(base:Heap)(k:Nat)(f:Addr)(fd:FuncData)(dn:Str)(C:Value)(nm:Str):Prop where
 run:∀(A:Around) (outer:List Env) (s:Shared) (H:Hp) (fa:Addr) (Good:Hp->Prop) (Q:VK),j5 (k+1) A->Lm P w K mg base A outer s H->BindsTo s fd ⟨[.ref fa],[]⟩ ([dn].zip [.ref fa]) ->
  (∀(A':Around) (outer':List Env) (s':Shared),j5 k A'->Lm P w K mg base A' outer' s' H->Un (frs outer) [] H H s.heap s'.heap->PySem.W.FnAt fa s'.heap/\codeAny (model P w) A' (.call (.ref fa) ⟨[],[]⟩) (CR (CX1 P w) outer' P w H s' (fun _ _=>False) (fun cls _ H'=>cls=C/\Good H')) s') ->
  (∀H',Good H'->∃U,dj K U H'/\∀H'',Ext K U H' U H''->dj K U H''->Q (.str nm) H'') ->
  codeAny (model P w) A (.call (.ref f) ⟨[.ref fa],[]⟩) (CR CX0 outer P w H s Q E0) s
theorem Eg{P:Program}{w:World}{K:PySem.W.Frag}{mg:Str->Option Value}{base:Heap}{k:Nat}{f:Addr}{fd:FuncData}{fx qual:Str}{st:Stmt}{dn n y1 y2 x:Str}{dp cp ep np hp pos:Pos}{pi:Stmt}{suite rest:List Stmt}{C FE:Addr}{nm:Str}{td:Addr->DTS}
  (F:Fun K fx qual st f fd) (S:aN [dn,n,y1,y2] [dn] (aC st))
  (hbody:iL st = .Try [.Expr (.Call (.Name dn dp) [] [] cp) ep] [.ExceptHandler (some (.Name x np)) (some n) (pi::suite) hp] [] [] pos::rest)
  (hv:(aC st).names.lookup dn=some .local) (hl:(aC st).names.lookup n=some .local) (hg:(aC st).names.lookup x=some .globalImplicit) (hm:mg x=some (.ref FE)) (hex:exmOne K (.ref C) (.ref FE)=some true)
  (hdb:(dn==("__debug__":Str))=false) (hdc:(dn==("__classdict__":Str))=false) (hxb:(x==("__debug__":Str))=false)
  (hsw:∀env:Env,swapsWith (.Call (.Name dn dp) [] [] cp) none ep.line env=pure false)
  (hs:∀(cdv:Value) (A:Around) (outer:List Env) (s:Shared) (H:Hp) (ea:Addr) (oe:Obj),oe.cls = .ref C->j5 k (rQ CX0 P w K mg base [dn,n,y1,y2] qual (aC st) f cdv A outer s H E0).A->DSs (cxH (rQ CX0 P w K mg base [dn,n,y1,y2] qual (aC st) f cdv A outer s H E0) ea oe) (pi::suite) (td ea))
  (hrd:∀(ea fa:Addr) (U:Mu) (Qd:DK),Qd (.v (.str nm)) U->td ea {nx:=fun _ _=>False,rt:=Qd} [some (.o fa),some (.o ea),none,none] U):Cu P w K mg base (k+1) f fd dn (.ref C) nm where
 run:=fun A outer s H fa Good Q hr e0 hb deed fin=>by
  obtain⟨oc,od,kV,doc,pm,an,cdv,ct,osl,rfl,lk,hcd⟩:=F.ex
  refine XH (k:=k+1) (vs:=[.ref fa]) (us:=[.ref fa]) lk hcd S rfl hr e0 hb (.cons rfl .nil) fun s1 I=>?_
  show wpAny _ _ (execs (iL st) _) _ _ _
  rw[hbody]
  have hX:∀ea oe,PSs (cxH (rQ CX0 P w K mg base [dn,n,y1,y2] qual (aC st) f cdv A outer s H E0) ea oe) (pi::suite) (fun D al H'=>oe.cls = .ref C/\H' ea=none/\al=(start [dn,n,y1,y2] [V.ref fa]).set 1 (some (.ref ea))/\∃U,dj K U H'/\∀H'',Ext K U H' U H''->dj K U H''->D.rt (.str nm) H''):=fun ea oe pins' s' al H' D I' h=>by
   obtain⟨hc,hH,rfl,U,ok,q⟩:=h
   obtain⟨t,p,l⟩:=hs cdv A outer s H ea oe hc ((hr.deeper _).mono (le_succ _))
   refine p pins' s' _ H' D I' (l _ H' [some (.o fa),some (.o ea),none,none] U {nx:=fun _ _=>False,rt:=fun d Y=>d = .v (.str nm)/\Y=U} D ⟨ok,rfl,fun i d e=>?_⟩ (hrd ea fa U _ ⟨rfl,rfl⟩) (fun _ _ _ _ _ _ z=>z.elim) (fun d u Y H'' e' ok' r ⟨z1,z2⟩=>?_) (fun _ _ _ _ _ _ z=>z.elim) (fun _ _ _ _ _ _ z=>z.elim))
   ·match i,e with
    |0,e=>cases e;exact⟨.ref fa,rfl,rfl⟩
    |1,e=>cases e;exact⟨.ref ea,rfl,rfl⟩
    |2,e=>cases e
    |3,e=>cases e
   ·subst z1 z2
    cases r
    exact q H'' e' ok'
  refine wpAny_execs_cons (wpAny_mono (U3 (X:=rQ CX0 P w K mg base [dn,n,y1,y2] qual (aC st) f cdv A outer s H E0) (C:=C) (FE:=FE) (di:=0) (ni:=1) ⟨rfl,rfl,rfl⟩ rfl S.nd rfl (Or.inl hv) rfl hl hg hm hex hX hdb hdc hxb (hsw _) [] s1 _ H {nx:=fun _ _=>False,rt:=Q} rfl I
   ⟨fa,Good,rfl,fun s2 I2=>deed _ _ s2 (hr.deeper _) I2.VP I2.base,fun H' ea oe gd c hn=>⟨c,hn,rfl,fin H' gd⟩⟩) (fun fl s' hs'=>?_) fun _ _ z=>z)
  cases fl with
  |ret u=>exact hs'
  |next=>obtain⟨_,_,_,z⟩:=hs';exact z.elim
  |brk=>obtain⟨_,_,_,z⟩:=hs';exact z.elim
  |cont=>obtain⟨_,_,_,z⟩:=hs';exact z.elim
section
variable {X:Cx}{e:Expr}{te:DTE}{p py pos:Pos}{y:Str}{C:Addr}{b:Bool}{ea:Addr}{oe:Obj}
noncomputable def cF(ea:Addr)(b:Bool)(te:DTE):DTE:=fun ρ U Q=>te ρ U fun x ac=>match x with
 |.o a=>a=ea/\Q (.v (.bool b)) ac
 |_=>False
theorem Ls{cv:V}{w:Value}(ZY:zf X.K C)(hp:(ea,oe)∈X.pn)(hc:oe.cls = .ref C)(r:RelV cv w)(hw:∀u,RelV cv u->u=w)(ek:kitOne X.K (.ref C) w=some b):n8 X (.builtin "isinstance") (fun xs H Q=>xs=[.ref ea,cv]/\Q (.bl b) H):=by
 intro pins s Z H xs us Q I rr h
 obtain⟨rfl,q⟩:=h
 obtain⟨v,w',rfl,r1,r2⟩:=vals2 rr
 cases r1
 obtain rfl:=hw w' r2
 exact kia_one (Rl ZY) I.kIn ⟨oe,(I.pin (ea,oe) (mem_append_left _ hp)).1,hc⟩ ek (fun z=>nomatch z) fun tk=>⟨.bl b,H,I.tok _,rfl,q⟩
theorem bA{C':Addr}(ZY:zf X.K C)(hp:(ea,oe)∈X.pn)(hc:oe.cls = .ref C)(ek:kitOne X.K (.ref C) (.ref C')=some b)(hg:Gl X "isinstance")(hm:X.mg "isinstance"=none)(hgy:Gl X y)(hmy:X.mg y=some (.ref C'))(ha:DE X e te)(hdy:(y==("__debug__":Str))=false:=by decide)
  (he:starEach [e,.Name y py] X.env=(false,eval e X.env)::starEach [.Name y py] X.env:=by rfl) (he2:starEach [.Name y py] X.env=[(false,eval (.Name y py) X.env)]:=by rfl) (hpl:(backTo pos (starEach [.Name y py] X.env)).any (·.1)=false:=by rfl):DE X (.Call (.Name "isinstance" p) [e,.Name y py] [] pos) (cF ea b te):=by
 obtain⟨t1,p1,l1⟩:=ha
 refine⟨_,zL (Ls (cv:=.ref C') ZY hp hc rfl (fun u h=>h) ek) hg hm PyProof.Rows.Boot.«isinstance» (kX p1 (kX (Oe (v:=.ref C') hgy hmy rfl hdy) we he2) he) ⋯ ⋯ he hpl,fun Z H ρ U Qd Q S h k=>?_⟩
 refine l1 Z H ρ U _ _ S h fun x ux ac H1 e1 S1 rx h1=>?_
 split at h1
 ·obtain⟨rfl,h1⟩:=h1
  obtain rfl:ux = .ref _:=rx
  exact⟨rfl,k (.v _) _ ac H1 e1 S1 (Rp.bool _) h1⟩
 ·exact h1.elim
theorem Aa{T:String}(ZY:zf X.K C)(hp:(ea,oe)∈X.pn)(hc:oe.cls = .ref C)(ek:kitOne X.K (.ref C) (.type T)=some b)(hg:Gl X "isinstance")(hm:X.mg "isinstance"=none)(hgy:Gl X y)(hmy:X.mg y=none)(hvy:bootBuiltins y=some (.type T))(ha:DE X e te)(hny:y ≠ "__name__":=by decide)(hdy:(y==("__debug__":Str))=false:=by decide)
  (he:starEach [e,.Name y py] X.env=(false,eval e X.env)::starEach [.Name y py] X.env:=by rfl) (he2:starEach [.Name y py] X.env=[(false,eval (.Name y py) X.env)]:=by rfl) (hpl:(backTo pos (starEach [.Name y py] X.env)).any (·.1)=false:=by rfl):DE X (.Call (.Name "isinstance" p) [e,.Name y py] [] pos) (cF ea b te):=by
 obtain⟨t1,p1,l1⟩:=ha
 refine⟨_,zL (Ls (cv:=.ty T) ZY hp hc rfl (fun u h=>h) ek) hg hm PyProof.Rows.Boot.«isinstance» (kX p1 (kX (OE (v:=.ty T) hgy hmy hvy rfl hny hdy) we he2) he) ⋯ ⋯ he hpl,fun Z H ρ U Qd Q S h k=>?_⟩
 refine l1 Z H ρ U _ _ S h fun x ux ac H1 e1 S1 rx h1=>?_
 split at h1
 ·obtain⟨rfl,h1⟩:=h1
  obtain rfl:ux = .ref _:=rx
  exact⟨rfl,k (.v _) _ ac H1 e1 S1 (Rp.bool _) h1⟩
 ·exact h1.elim
end
structure Xo(K:PySem.W.Frag)(mg:Str->Option Value)(c P:Addr)(q:Str):Prop where
 obj:∃o,K.lookup c=some o/\cX o=some (P,q)
 one:∀c2 o2 q2,K.lookup c2=some o2->cX o2=some (P,q2)->q2=q
 blt:Vo K mg
end L2.DL
namespace L2
open PySem PySem.Spec PyProof.Rows DL
noncomputable def Ww(tabs:List Addr)(H:Hp):Prop:=∀b,H b=none\/(∃o xs,H b=some (.frz o (.lst xs)))\/(b∈tabs/\H b=some (.tbl #[]))
theorem O4{P:Program}{w:World}{K:PySem.W.Frag}{mg mb:Str->Option Value}{CX:CXT}{k:Nat}{fa a:Addr}{fd:FuncData}{x:Str}{sp:Sp}{cr:Shared}{vs:List Value}{ns:List Int}(tabs:List Addr)
  (hT:∀p∈tabs,cr.heap.get? p=some (tabObj #[])/\K.lookup p=none) (hA2:∀c o p q,K.lookup c=some o->cX o=some (p,q)->p∈tabs) (hC:∀p∈tabs,isCodeTable cr.heap p)
  (KX:K.In cr.heap) (hns:cr.heap.Ns mainGlobals mg) (hb:cr.heap.Ns builtinsNs mb) (hbb:∀x:Str,x ≠ "__name__"->mb x=bootBuiltins x) (hlim:cr.heap.NoLimit) (hg:cr.gens = #[])
  (ha:cr.heap.get? a=some {cls:=.type "list",data:=.seq vs.toArray}) (hi:IntsAre vs ns) (hl:ns.length<=sizeLine) (hr:j5 k callerA)
  (F:∀base:Heap,K.In base->base.Ns mainGlobals mg->bO P w K mg base CX k fa fd [x] sp) (hbind:∀(s:Shared) (u:Value),BindsTo s fd ⟨[u],[]⟩ [(x,u)])
  (hsp:∀H:Hp,Gm K H->SqL K H a (ns.map V.int)->sp [.ref a] H (fun v _=>v = .bl true) fun _ _ _=>False)
  (hCX:∀H e s',CX [] H cr (fun _ _ _=>False) e s'->False) :
  codeAny (model P w) callerA (.call (.ref fa) ⟨[.ref a],[]⟩) (fun r s'=>r = .ok (.ret (.bool true))/\OldK cr.heap s'.heap/\s'.os=cr.os/\AllBare s'.gens) cr:=by
 have rv:=Hy hi
 have lenV:=hi.length
 have ant:a ∉ tabs:=fun z=>by have:=(hT a z).1;rw[ha] at this;cases this
 have core:∀H:Hp,Ww tabs H->SqL K H a (ns.map V.int)->HOk P w H cr.heap->(∀b,H b≠none->b=a\/b∈tabs)->(H a≠none->K.lookup a=none)->(∀p∈tabs,H p=some (.tbl #[])) ->
   codeAny (model P w) callerA (.call (.ref fa) ⟨[.ref a],[]⟩) (fun r s'=>r = .ok (.ret (.bool true))/\OldK cr.heap s'.heap/\s'.os=cr.os/\AllBare s'.gens) cr:=by
  intro H hO hS hok hA hK hP
  have base_of:∀{b:Addr} {o:Obj},cr.heap.get? b=some o->H b=none->(IM cr.heap H).get? b=some o:=fun e n=>Rt e n
  have noA:∀{b:Addr} {o:Obj} {es:Array DictEntry} {ep:Nat},cr.heap.get? b=some o->o.data = .dict es ep->H b=none:=fun {b o es ep} e d=>by
   cases q:H b with
   |none=>rfl
   |some u=>
    rcases hA b (by rw[q];simp) with e'|e'
    ·subst e'
     rw[ha] at e;cases e
     have d':Data.seq vs.toArray _=Data.dict es ep:=d
     cases d'
    ·rw[(hT b e').1] at e;cases e
     have d':Data.fields #[]=Data.dict es ep:=d
     cases d'
  have nsK:∀{b:Addr} {m:Str->Option Value},cr.heap.Ns b m->(IM cr.heap H).Ns b m:=fun {b m} ⟨o,es,ep,e,d,r⟩=>⟨o,es,ep,base_of e (noA e d),d,r⟩
  have hKb:K.In (IM cr.heap H):=fun b o e=>base_of (KX b o e) (by
   cases q:H b with
   |none=>rfl
   |some u=>
    rcases hA b (by rw[q];simp) with e'|e'
    ·subst e'
     rw[hK (by rw[q];simp)] at e;cases e
    ·have e2:=e;rw[show K.lookup b=none from (hT b e').2] at e2;cases e2)
  have hM:Mod K mg (IM cr.heap H):=⟨hKb,nsK hns,⟨mb,nsK hb,hbb⟩,let ⟨mc,h1,h2⟩:=hlim;⟨mc,nsK h1,h2⟩⟩
  have e0:Lm P w K mg (IM cr.heap H) callerA [] cr H:=⟨rfl,hM,fun b o e=>Th e,Nat.le_of_eq (Pj _ _),trivial,fun b hb=>absurd (show b∈([]:List Addr) from hb) (by simp),hok,.of_eq hg⟩
  have tb:Gm K H:=fun c o p q h1 h2=>⟨#[],hP p (hA2 c o p q h1 h2),trivial,fun pos cv e=>by simp[codeAmong] at e⟩
  refine codeAny_mono ((F _ hKb (nsK hns)).run callerA [] cr H ⟨[.ref a],[]⟩ [.ref a] [.ref a] _ _ hr e0 (hbind cr (.ref a)) (.cons rfl .nil) (hsp H tb hS)) fun r s' h=>?_
  cases r with
  |error e=>exact (hCX H e s' h).elim
  |ok fl=>
   cases fl with
   |next=>exact False.elim h
   |brk=>exact False.elim h
   |cont=>exact False.elim h
   |ret u=>
    obtain⟨v,H',os,bare,un,hok',r',q⟩:=h
    have q':v = .bl true:=q
    subst q'
    obtain rfl:u=Value.bool true:=r'
    refine⟨rfl,⟨fun b o e=>?_,fun b o e=>un.there b o e (by simp)⟩,os,bare⟩
    cases q:H b with
    |none=>exact .inl (un.keep b o e q (by intro z;exact absurd (show b∈([]:List Addr) from z) (by simp)) (by simp))
    |some u=>
     rcases hO b with z|⟨ob,xs,z⟩|⟨zt,z⟩
     ·rw[q] at z;cases z
     ·have z2:=un.xK b ob _ z
      obtain⟨e1,_⟩:=hok b _ z
      obtain⟨e2,_⟩:=hok' b _ z2
      rw[e] at e1;cases e1
      exact .inl e2
     ·obtain⟨more,z2⟩:=un.xJ b _ z
      have e2:s'.heap.get? b=some {cls:=.none,data:=.fields (#[]++more)}:=hok' b _ z2
      have e1:=(hT b zt).1
      rw[e] at e1;cases e1
      exact .inr (.inl ⟨hC b zt,rfl,#[],more,rfl,e2⟩)
 have okT:∀p∈tabs,cr.heap.get? p=some {cls:=.none,data:=.fields #[]}:=fun p hp=>(hT p hp).1
 cases hk:K.lookup a with
 |some o=>
  have e:=KX a o hk
  rw[ha] at e
  cases e
  refine core (fun b=>if b∈tabs then some (.tbl #[]) else none) (fun b=>?_) (.inr ⟨_,vs.toArray,_,hk,rfl,rfl,rfl,by rw[size_toArray,lenV];exact hl,by simpa using rv⟩) (fun b u z=>?_) (fun b z=>?_) (fun z=>absurd (if_neg ant) z) (fun p hp=>if_pos hp)
  ·by_cases hb:b∈tabs
   ·exact .inr (.inr ⟨hb,if_pos hb⟩)
   ·exact .inl (if_neg hb)
  ·by_cases hb:b∈tabs
   ·have z':=(if_pos hb).symm.trans z;cases z';exact okT b hb
   ·have z':=(if_neg hb).symm.trans z;cases z'
  ·by_cases hb:b∈tabs
   ·exact .inr hb
   ·exact absurd (if_neg hb) z
 |none=>
  refine core (fun b=>if b=a then some (.frz {cls:=.type "list",data:=.seq vs.toArray} (.lst (ns.map V.int))) else if b∈tabs then some (.tbl #[]) else none) (fun b=>?_) (.inl (.inr ⟨{cls:=.type "list",data:=.seq vs.toArray},if_pos rfl⟩)) (fun b u z=>?_) (fun b z=>?_) (fun _=>hk) (fun p hp=>by
   have:p≠a:=fun y=>ant (by rw[<- y];exact hp)
   exact (if_neg this).trans (if_pos hp))
  ·by_cases hb:b=a
   ·exact .inr (.inl ⟨_,_,if_pos hb⟩)
   ·by_cases hb2:b∈tabs
    ·exact .inr (.inr ⟨hb2,(if_neg hb).trans (if_pos hb2)⟩)
    ·exact .inl ((if_neg hb).trans (if_neg hb2))
  ·by_cases hb:b=a
   ·have z':=(if_pos hb).symm.trans z
    cases z'
    subst hb
    exact⟨ha,by rw[length_map];exact hl,vs,_,rv,ha⟩
   ·by_cases hb2:b∈tabs
    ·have z':=((if_neg hb).trans (if_pos hb2)).symm.trans z;cases z';exact okT b hb2
    ·have z':=((if_neg hb).trans (if_neg hb2)).symm.trans z;cases z'
  ·by_cases hb:b=a
   ·exact .inl hb
   ·by_cases hb2:b∈tabs
    ·exact .inr hb2
    ·exact absurd ((if_neg hb).trans (if_neg hb2)) z
theorem Qf{l:PySem.W.OpenLaw}{n k:Nat}{q:Program}{loose:List Str}{XP:(Str->Option Value)->Heap->Prop}{YP:World->Heap->Prop}{d:DefRec}{K:Params->PySem.W.Frag}{CX:World->CXT}{sp:World->Sp}{x:Str}(tabs:List Addr)
  (hn:l.most=some n) (hn2:n<=sizeLine) (hdf:d.params.defaults=[]) (hr:j5 k callerA)
  (hY:∀(w:World) (h:Heap),YP w h->(K w.params).In h/\(∀p∈tabs,h.get? p=some (tabObj #[])/\(K w.params).lookup p=none)/\(∀p∈tabs,isCodeTable h p))
  (hA2:∀(w:World) c o p q,(K w.params).lookup c=some o->cX o=some (p,q)->p∈tabs)
  (F:∀(w:World) (mg:Str->Option Value) (fa:Addr) (h:Heap),(K w.params).In h->h.Ns mainGlobals mg->mg d.name=some (.ref fa) ->
   ∃fd:FuncData,(∀(s:Shared) (u:Value),BindsTo s fd ⟨[u],[]⟩ [(x,u)]) /\
    ∀base:Heap,(K w.params).In base->base.Ns mainGlobals mg->bO l.prog w (K w.params) mg base (CX w) k fa fd [x] (sp w))
  (hsp:∀(w:World) (H:Hp) (a:Addr) (ns:List Int),ns.length<=n->Gm (K w.params) H->SqL (K w.params) H a (ns.map V.int)->sp w [.ref a] H (fun v _=>v = .bl true) fun _ _ _=>False)
  (hCX:∀(w:World) (H:Hp) (s:Shared) (e:Value) (s':Shared),CX w [] H s (fun _ _ _=>False) e s'->False) :
  PySem.W.WalkO q loose XP YP l.row.toRowW d [] (fun f vs=>PySem.call f vs):=by
 refine Att.LU hn hdf fun w dL cr mg mb fa o pm cd doc a vs ns G ZZ ho hd hcd hmg hobj hints hlen hg=>?_
 obtain⟨KX,hT,hC⟩:=hY w _ ZZ
 obtain⟨fd,hb,hF⟩:=F w mg fa _ KX G.T.g hmg
 exact O4 tabs hT (hA2 w) hC KX G.T.g G.T.b G.T.builtins G.T.nolimit hg hobj hints (le_trans hlen hn2) hr hF hb (fun H hO hS=>hsp w H a ns hlen hO hS) fun H e s'=>hCX w H cr e s'
end L2
namespace L2.DL
open PySem PySem.Spec PyProof.Rows
theorem _root_.L2.Fun.YD{P:Program}{w:World}{K:PySem.W.Frag}{mg:Str->Option Value}{base:Heap}{x qual:Str}{st:Stmt}{f:Addr}{fd:FuncData}{N ps:List Str}{k:Nat}{dsp:DSp}(F:Fun K x qual st f fd)(S:aN N ps (aC st))(len:∀ds U Q,dsp ds U Q->ds.length=ps.length)
  (hbody:∀(cdv:Value),fd.code=cdv->∀(A:Around) (outer:List Env) (s:Shared) (H:Hp) (E:XK),j5 k (A.deeper (envOfC qual (aC st) s.heap.objs.size f cdv)) ->
   ∃td,DSs (rQ CX0 P w K mg base N qual (aC st) f cdv A outer s H E).nox (iL st) td/\∀ds U Qd,dsp ds U Qd->td ‹Qd› (aS N ds) U):bO P w K mg base CX0 (k+1) f fd ps (spD K dsp):=by
 obtain⟨oc,od,kV,doc,pm,an,cdv,ct,osl,rfl,lk,hcd⟩:=F.ex
 refine R7 lk hcd S (fun vs H Q E h=>?_) fun A outer s H vs Q E hr h=>?_
 ·obtain⟨ds,U,Qd,_,r,h,_⟩:=h
  rw[<- r.length];exact len ds U Qd h
 ·obtain⟨ds,U,Qd,ok,r,h,fin⟩:=h
  obtain⟨td,⟨t,p,l⟩,rd⟩:=hbody cdv rfl A outer s H E hr
  exact⟨t,p.nox,l (start N vs) H (aS N ds) U _ _ ⟨ok,BK r⟩ (rd ds U Qd h) (fun al am Y H' e' S' q=>fin (.v .none) .non Y H' e' S'.mu Rp.none q) (fun d u Y H' e' ok' r' q=>fin d u Y H' e' ok' r' q) (fun _ _ _ _ _ _ q=>q) (fun _ _ _ _ _ _ q=>q)⟩
def Up(X:Cx)(lsc:Scope):Option Nat->Str->Prop
 |some j,x=>X.N[j]? = some x/\Vis X.env.scope x/\X.env.kindOf x≠some .local/\lsc.names.lookup x=some .free
 |none,_=>True
def WZ(X:Cx)(lsc:Scope):List (Option Nat)->List Str->Prop
 |c::r,x::r'=>Up X lsc c x/\WZ X lsc r r'
 |_,_=>True
theorem el{X:Cx}{lsc:Scope}:∀{cap:List (Option Nat)} {N':List Str},WZ X lsc cap N'->∀(i j:Nat) (x:Str),cap[i]? = some (some j)->N'[i]? = some x->X.N[j]? = some x/\Vis X.env.scope x/\X.env.kindOf x≠some .local/\lsc.names.lookup x=some .free
 |[],_,_,i,j,x,h,_=>by simp at h
 |_::_,[],_,i,j,x,_,h=>by simp at h
 |c::r,y::r',h,0,j,x,h1,h2=>by
  simp at h1 h2;subst h1 h2;exact h.1
 |c::r,y::r',h,i+1,j,x,h1,h2=>el h.2 i j x (by simpa using h1) (by simpa using h2)
theorem bQ{X:Cx}{lsc:Scope}{j:Nat}{x:Str}(h1:X.N[j]? = some x:=by rfl)(h2:X.env.kindOf x=some .cell:=by rfl)(h3:lsc.names.lookup x=some .free:=by rfl):Up X lsc (some j) x:=
 ⟨h1,.inr (.inl h2),(by rw[h2];decide),h3⟩
theorem NU{K:PySem.W.Frag}{l:List (Addr×Str)}(h:(K.filterMap fun p=>cX p.2)=l){c:Addr}{o:Obj}{P:Addr}{q:Str}(e:K.lookup c=some o)(e2:cX o=some (P,q)):(P,q)∈l:=by
 rw[<- h]
 have mem:∀(L:List (Addr×Obj)),List.lookup c L=some o->(c,o)∈L:=fun L=>by
  induction L with
  |nil=>intro z;cases z
  |cons a r ih=>
   intro z
   rw[lookup_cons] at z
   by_cases y:c=a.1
   ·rw[y] at z ⊢;simp at z;rw[<- z];exact mem_cons_self
   ·rw[show (c==a.1)=false from by simpa using y] at z
    exact mem_cons_of_mem _ (ih z)
 exact List.mem_filterMap.mpr ⟨(c,o),mem K e,e2⟩
theorem Hz{K:PySem.W.Frag}{h:Heap}{c P:Addr}{o:Obj}{q:Str}(X:K.In h)(l:K.lookup c=some o)(e:cX o=some (P,q)):isCodeTable h P:=by
 have ho:=X _ _ l
 unfold cX at e
 split at e
 ·rename_i cn vs hcls hd
  split at e
  ·rename_i hcn
   subst hcn
   split at e
   ·rename_i e11 e18
    split at e
    ·cases e
     exact⟨c,o,vs,ho,hcls,hd,by assumption⟩
    ·cases e
   ·cases e
  ·cases e
 ·cases e
theorem Jc{K:PySem.W.Frag}{c P:Addr}{q:Str}(h:(K.lookup c).bind cX=some (P,q)):∃o,K.lookup c=some o/\cX o=some (P,q):=Option.bind_eq_some_iff.mp h
theorem Jr{K T:PySem.W.Frag}{h:Heap}(X:PySem.W.Frag.In (K++T) h):K.In h:=fun b o e=>X b o (by
 show List.lookup b (K++T)=some o
 rw[List.lookup_append,show List.lookup b K=some o from e];rfl)
theorem VX{K:PySem.W.Frag}{mg:Str->Option Value}{bm:Addr}{sl:Array (Option Value)}(h1:mg "__builtins__"=some (.ref bm))(h2:bm≠builtinsNs)(h3:K.lookup bm=some ⟨.type "module",some builtinsNs,.plain,sl⟩):Vo K mg:=⟨bm,_,h1,h2,h3,rfl,rfl,rfl⟩
theorem nN{dsp:XSp}{t:DTA}{ρ:Rho}{U:Mu}{Xk:Mu->Prop}:fe dsp t ρ U Xk=t ρ U (fun ds ac=>dsp ds ac Xk):=propext Iff.rfl
theorem J5{tc:DTT}{tx ty:DTX}{ρ:Rho}{U:Mu}{Xk:Mu->Prop}:xIf tc tx ty ρ U Xk=tc ρ U (fun b ac=>if b=true then tx ρ ac Xk else ty ρ ac Xk):=propext Iff.rfl
theorem oO{td:DTS}{tx:DTX}{ρ:Rho}{U:Mu}{Xk:Mu->Prop}:As td tx ρ U Xk=td {nx:=fun am Y=>tx am Y Xk,rt:=fun _ _=>False} ρ U:=propext Iff.rfl
theorem XQ{ea:Addr}{b:Bool}{i:Nat}{ρ:Rho}{U:Mu}{Q:DK}(h:ρ[i]? = some (some (.o ea))):cF ea b (ag i) ρ U Q=Q (.v (.bool b)) U:=by
 unfold cF ag
 rw[h]
 exact propext ⟨fun z=>z.2,fun z=>⟨rfl,z⟩⟩
theorem rX{ea:Addr}{b:Bool}{x:Option D}{r:Rho}{U:Mu}{Q:DK}:cF ea b (ag 1) (x::some (.o ea)::r) U Q=Q (.v (.bool b)) U:=XQ rfl
def Jq:PyData->Option PyData
 |.tuple [.str n,.bool b]=>if b=true then some (.str n) else none
 |_=>none
theorem wK{r:Rho}{U:Mu}{Q:DK}{ns:List (Str×Bool)}{i:Nat}(hi:r[i]? = some (some (.v (.list (ns.map fun n=>.tuple [.str n.1,.bool n.2])))))(hl:ns.length<=1000)(q:Q (.v (.list ((ns.map fun n=>(.tuple [.str n.1,.bool n.2]:PyData)).filterMap Jq))) U) :
  dJ [none,none] (gb (ag i)) (iP 2 (bS (ar 0) (bS (ar 1) i7))) (dB (ag 1)) (ag 0) r U Q:=by
 rw[rE]
 show (match r[i]? with|some (some d)=>_|_=>False)
 rw[hi]
 refine⟨by rw[length_map];exact hl,fun p hp=>⟨fun i acc Y=>acc=((ns.map fun n=>(.tuple [.str n.1,.bool n.2]:PyData)).take i).filterMap Jq/\Y=aR U p acc,⟨rfl,rfl⟩,?_,?_⟩⟩
 ·rintro i x acc Y hx hpa ⟨e0,e1⟩
  obtain⟨n,hn,rfl⟩:=List.mem_map.mp (mem_of_getElem? hx)
  have st:=DB (f:=Jq) hx
  obtain⟨n,b⟩:=n
  refine⟨rfl,⟨trivial,?_⟩⟩
  show if b=true then _ else _
  cases b with
  |true=>
   rw[if_pos rfl]
   refine⟨hpa,?_,?_⟩
   ·rw[st,<- e0];rfl
   ·rw[e1,pL]
  |false=>
   rw[if_neg ⋯]
   refine⟨hpa,?_,e1⟩
   rw[st,<- e0];simp[Jq]
 ·rintro acc Y ⟨e0,e1⟩ hpa
  rw[take_length] at e0
  rw[e1,e0,xo hp]
  exact q
noncomputable def LI(fa c1:Addr)(q:Str)(params:Arguments)(body:Expr)(lsc:Scope)(cl:List (Str×Addr))(h:Heap):Prop:=∃pm ctv,h.get? fa=some {cls:=.type "function",data:=.func (kla_fn "<lambda>" (cS q) params body lsc cl pm (.ref c1) ctv)}
noncomputable def TK(q:Str)(params:Arguments)(body:Expr)(lsc:Scope)(cl:List (Str×Addr)):PQ:=fun _ u U H=>∃fa c1,u = .ref fa/\H fa=some (.ext (LI fa c1 q params body lsc cl))/\H c1=some (.ext (codeAt c1 (cS q)))/\U fa=none/\U c1=none
noncomputable def QL(ds:List D):PQ:=fun K u U H=>∃a us,u = .ref a/\H a=some (.lst us)/\U a=none/\n5 K U H ds us
noncomputable def QT(ds:List D):PQ:=fun K u U H=>∃a us,u = .ref a/\H a=some (.tup us)/\n5 K U H ds us
section
variable {X:Cx}{pins:List (Addr×Obj)}{Z:St}{H:Hp}{s:Shared}
theorem SM{U:Mu}{params:Arguments}{body:Expr}{lsc:Scope}{lpos:Pos}{cl:List (Str×Addr)}{c P:Addr}{o:Obj}{q:Str}{Qd:Value->Shared->Prop}(I:Inv X pins Z H s)(ok:dj X.K U H)(hcode:X.env.code = .ref c)(hl:X.K.lookup c=some o)
  (hlc:cX o=some (P,q)) (hu:∀c2 o2 q2,X.K.lookup c2=some o2->cX o2=some (P,q2)->q2=q) (hq:X.env.qual=q ++ ".<locals>.") (hB:Vo X.K X.mg) (hcl:closureFor lsc X.env=pure cl) (hdef:defaultsOf params X.env=([],[]))
  (k:∀(fa c1:Addr) (H1:Hp) (s1:Shared),Inv X pins Z H1 s1->Ext X.K U H U H1->dj X.K U H1->H1 fa=some (.ext (LI fa c1 q params body lsc cl))->H1 c1=some (.ext (codeAt c1 (cS q)))->Qd (.ref fa) s1) :
  wpAny (model X.prog X.w) X.A (eval (.Lambda params body lsc lpos) X.env) Qd X.xe s:=by
 refine PySem.W.kla_eval hdef ?_
 rw[hq]
 obtain⟨ps,hP,htr,hcs⟩:=ok.tab c o P q hl hlc
 have getP:s.heap.get? P=some (tabObj ps):=I.hok P _ hP
 have nK:∀b ob,X.K.lookup b=some ob->b≠P:=fun b ob e z=>by
  have:=(I.bs b ob (I.mod.kin b ob e)).2
  rw[z,hP] at this;cases this
 have C:=Sb I.kIn hl hlc (nK c o hl)
 have hg:s.heap.Ns mainGlobals X.mg:=I.mod.glob.keeps I.bk
 have hgP:mainGlobals≠P:=fun z=>by
  obtain⟨og,es,ep,e,d,_⟩:=hg
  rw[z,getP] at e;cases e;cases d
 have hb:s.heap.BuiltinsAt X.mg P:=by
  obtain⟨bm,ob,b1,b2,b3,b4,b5,b6⟩:=hB
  refine⟨bm,ob,b1,b2,fun z=>?_,nK bm ob b3,I.kIn _ _ b3,b4,b5,b6⟩
  obtain⟨og,es,ep,e,d,_⟩:=hg
  rw[<- z,I.kIn _ _ b3] at e;cases e;rw[b6] at d;cases d
 have stk:∀b,s.heap.objs.size<=b->b ∉ frs X.stack:=fun b hb hm=>by
  obtain⟨_,ob,e,_⟩:=I.stack.mem hm
  exact absurd (Heap.lt_size e) (Nat.not_lt.mpr hb)
 cases hf:codeAmong lpos ps.toList with
 |some cv=>
  obtain⟨c1,rfl,hc1⟩:=hcs lpos cv hf
  refine PySem.W.kla_makeFunctionHit hcl I.ok.glob hg hcode C getP htr hf hb fun ctv h' tk hk hsz=>?_
  have fr:=I.hok.fresh hsz
  have I2:=I.laid (t':=tk) (h':=h'.push {cls:=.type "function",data:=.func (kla_fn "<lambda>" (cS q) params body lsc cl ((X.mg "__name__").getD .none) (.ref c1) ctv)}) (a:=h'.objs.size) (o:=.ext (LI h'.objs.size c1 q params body lsc cl)) (fun b u e=>Heap.get?_push_of_some _ (hk b u e)) hsz ⟨⟨_,_,Heap.get?_push_size _ rfl⟩,⟨_,Heap.get?_push_size _ rfl⟩,fun h1 h2 ⟨pm,ct,e⟩ kk=>⟨pm,ct,kk _ e⟩⟩
  exact k h'.objs.size c1 _ _ I2 (dZ fr) (ok.new fr) d9 (by rw[cw (bN hc1 fr)];exact hc1)
 |none=>
  refine PySem.W.kla_makeFunction hcl I.ok.glob hg hcode C getP htr hf hgP hb fun c' ctv h' tk hx hge hlt hrec htb=>?_
  have hca:codeAt c' (cS q) h':=by
   obtain⟨c2,oc,vs,t,e2,g2,d2,v2⟩:=hrec
   cases e2
   exact⟨oc,vs,t,g2,d2,v2⟩
  have fc:H c'=none:=I.hok.fresh hge
  have I1:Inv X pins Z (upd (upd H P (.tbl (ps++[rawInt lpos.line,rawInt lpos.col,.ref c'].toArray))) c' (.ext (codeAt c' (cS q)))) {s with heap:=h',toks:=tk}:=OS (φ:=codeAt c' (cS q)) I hP hx htb hge hca (let ⟨oc,_,_,g2,_⟩:=hca;⟨oc,g2⟩) (fun h1 h2 ⟨oc,vs,t,g2,d2,v2⟩ kk=>⟨oc,vs,t,kk _ g2,d2,v2⟩)
  have old:∀b,b≠P->b≠c'->upd (upd H P (.tbl (ps++[rawInt lpos.line,rawInt lpos.col,.ref c'].toArray))) c' (.ext (codeAt c' (cS q))) b=H b:=fun b h1 h2=>by rw[cw h2,cw h1]
  have nPc:P≠c':=bN hP fc
  have ex:Ext X.K U H U (upd (upd H P (.tbl (ps++[rawInt lpos.line,rawInt lpos.col,.ref c'].toArray))) c' (.ext (codeAt c' (cS q)))):=⟨fun b u e n nt=>by rw[old b (fun z=>by rw[z,hP] at e;cases e;exact nt) (bN e fc)];exact e,fun b qs e n=>by
   by_cases z:b=P
   ·exact⟨_,by rw[z,cw nPc];exact d9⟩
   ·exact⟨qs,by rw[old b z (bN e fc)];exact e⟩,fun _ ds e=>⟨ds,e⟩,fun _ e _=>e⟩
  have mu:dj X.K U (upd (upd H P (.tbl (ps++[rawInt lpos.line,rawInt lpos.col,.ref c'].toArray))) c' (.ext (codeAt c' (cS q)))):=⟨fun a ds e=>by
   obtain⟨xs,h1,h2⟩:=ok a ds e
   exact⟨xs,by rw[old a (fun z=>by rw[z,hP] at h1;cases h1) (bN h1 fc)];exact h1,h2.ext ok ex⟩,RX ok.tab hP htr hcs hf fc hu⟩
  have hfr:s.heap.objs.size<=h'.objs.size:=le_trans hge (Nat.le_of_lt hlt)
  have frn:(upd (upd H P (.tbl (ps++[rawInt lpos.line,rawInt lpos.col,.ref c'].toArray))) c' (.ext (codeAt c' (cS q)))) h'.objs.size=none:=by
   have:h'.objs.size≠c':=Nat.ne_of_gt hlt
   by_cases z:h'.objs.size=P
   ·exact absurd (Heap.lt_size getP) (by rw[<- z];exact Nat.not_lt.mpr hfr)
   ·rw[old _ z this];exact I.hok.fresh hfr
  have I2:=I1.laid (t':=tk) (h':=h'.push {cls:=.type "function",data:=.func (kla_fn "<lambda>" (cS q) params body lsc cl ((X.mg "__name__").getD .none) (.ref c') ctv)}) (a:=h'.objs.size) (o:=.ext (LI h'.objs.size c' q params body lsc cl)) (fun b u e=>Heap.get?_push_of_some _ e) (le_refl _) ⟨⟨_,_,Heap.get?_push_size _ rfl⟩,⟨_,Heap.get?_push_size _ rfl⟩,fun h1 h2 ⟨pm,ct,e⟩ kk=>⟨pm,ct,kk _ e⟩⟩
  have hc1:(upd (upd H P (.tbl (ps++[rawInt lpos.line,rawInt lpos.col,.ref c'].toArray))) c' (.ext (codeAt c' (cS q)))) c'=some (.ext (codeAt c' (cS q))):=d9
  exact k h'.objs.size c' _ _ I2 (ex.trans (dZ frn)) (mu.new frn) d9 (by rw[cw (bN hc1 frn)];exact hc1)
end
section
variable {K:PySem.W.Frag}{U:Mu}{H:Hp}{a:Addr}{us:List V}{ds:List D}
theorem W2(ok:dj K U H)(ha:H a=some (.lst us))(hn:U a=none)(r:n5 K U H ds us):RpD K U H (.q (QL ds)) (.ref a):=fun Y H' e=>⟨a,us,rfl,e.keep _ _ ha hn trivial,e.fresh _ hn (.inl (by rw[ha];exact fun z=>nomatch z)),r.ext ok e⟩
theorem WY(ok:dj K U H)(ha:H a=some (.tup us))(r:n5 K U H ds us):RpD K U H (.q (QT ds)) (.ref a):=fun Y H' e=>⟨a,us,rfl,e.keep _ _ ha (ok.not ha fun _ z=>nomatch z) trivial,r.ext ok e⟩
theorem UT{fa c1:Addr}{q:Str}{params:Arguments}{body:Expr}{lsc:Scope}{cl:List (Str×Addr)}(ok:dj K U H)(h1:H fa=some (.ext (LI fa c1 q params body lsc cl)))(h2:H c1=some (.ext (codeAt c1 (cS q)))):RpD K U H (.q (TK q params body lsc cl)) (.ref fa):=fun Y H' e=>by
 have n1:=ok.not h1 fun _ z=>nomatch z
 have n2:=ok.not h2 fun _ z=>nomatch z
 exact⟨fa,c1,rfl,e.keep _ _ h1 n1 trivial,e.keep _ _ h2 n2 trivial,e.fresh _ n1 (.inl (by rw[h1];exact fun z=>nomatch z)),e.fresh _ n2 (.inl (by rw[h2];exact fun z=>nomatch z))⟩
end
section
variable {X:Cx}{es:List Expr}{t:DTA}{pos:Pos}
noncomputable def dKq(P:PQ):DTE:=fun _ U Q=>Q (.q P) U
theorem gY{c P:Addr}{q:Str}{params:Arguments}{body:Expr}{lsc:Scope}{lpos:Pos}{cl:List (Str×Addr)}(L:Xo X.K X.mg c P q)(hcode:X.env.code = .ref c)(hq:X.env.qual=q ++ ".<locals>.")(hdef:defaultsOf params X.env=([],[]))(hclos:closureFor lsc X.env=pure cl) :
  DE X (.Lambda params body lsc lpos) (dKq (TK q params body lsc cl)):=by
 refine G6 fun pins s Z H ρ U Qd Q I S h kk=>?_
 obtain⟨o,hl,hlc⟩:=L.obj
 refine SM I S.mu hcode hl hlc L.one hq L.blt hclos hdef fun fa c1 H1 s1 I1 ex mu h1 h2=>?_
 exact⟨.ref fa,H1,I1,rfl,kk (.q _) (.ref fa) U H1 ex ⟨mu,S.rho.ext S.mu ex⟩ (UT mu h1 h2) h⟩
noncomputable def PR(t:DTA):DTE:=fun ρ U Q=>t ρ U fun ds ac=>Q (.q (QL ds)) ac
theorem SR(h:DA X es t)(hl:es.length<=1000:=by decide):DE X (.List es pos) (PR t):=by
 obtain⟨t1,p1,l1⟩:=h
 refine⟨_,Qx p1,fun Z H ρ U Qd Q S h k=>?_⟩
 refine l1 Z H ρ U _ _ S h fun ds us ac H1 e1 S1 rs len h1=>?_
 refine⟨Nat.le_of_lt (gm (by rw[<- rs.length,len];exact hl)),fun p hp=>?_⟩
 have e2:=dZ (K:=X.K) (U:=ac) (o:=.lst us) hp
 have S2:=S1.new (o:=.lst us) hp
 exact k (.q (QL ds)) _ ac _ (e1.trans e2) S2 (W2 S2.mu d9 (S1.mu.free hp) (rs.ext S1.mu e2)) h1
noncomputable def j3(t:DTA):DTE:=fun ρ U Q=>t ρ U fun ds ac=>Q (.q (QT ds)) ac
theorem eY{x1}(h:DA X es t)(hl:es.length<=1000:=by decide):DE X (.Tuple es x1 pos) (j3 t):=by
 obtain⟨t1,p1,l1⟩:=h
 refine⟨_,Rv p1,fun Z H ρ U Qd Q S h k=>?_⟩
 refine l1 Z H ρ U _ _ S h fun ds us ac H1 e1 S1 rs len h1=>?_
 refine⟨Nat.le_of_lt (gm (by rw[<- rs.length,len];exact hl)),fun p hp=>?_⟩
 have e2:=dZ (K:=X.K) (U:=ac) (o:=.tup us) hp
 have S2:=S1.new (o:=.tup us) hp
 exact k (.q (QT ds)) _ ac _ (e1.trans e2) S2 (WY S2.mu d9 (rs.ext S1.mu e2)) h1
end
noncomputable def TZ(K:PySem.W.Frag)(J:It)(xs:List D)(ac:Mu)(H1:Hp):Prop:=∀ad H2,Ext K ac H1 ad H2->dj K ad H2->∀i,(i<xs.length->J.go i H2/\∀x H',J.yld i H2 x H'->∃d,xs[i]? = some d/\EV H2 H'/\RpD K ad H' d x)/\(i=xs.length->J.stop i H2)
abbrev Xs:=Rho->Mu->(List D->Mu->Prop)->Prop
noncomputable def Vi(K:PySem.W.Frag)(wi:TI)(src:Xs):Prop:=∀(Z:St) (H:Hp) (ρ:Rho) (U:Mu) (Qd:List D->Mu->Prop) (R:It->Hp->Prop),St0 K H ρ U Z->src ρ U Qd ->
 (∀xs ac H1 J,Ext K U H ac H1->St0 K H1 ρ ac Z->TZ K J xs ac H1->Qd xs ac->R J H1)->wi Z H R
def diQ(te:DTE):Xs:=fun ρ U Q=>te ρ U fun d ac=>∃ds,d = .q (QL ds)/\Q ds ac
theorem YU{X:Cx}{e tg:Expr}{te:DTE}(h:DE X e te):∃wi,PI X tg e wi/\Vi X.K wi (diQ te):=by
 obtain⟨t1,p1,l1⟩:=h
 refine⟨_,Od p1,fun Z H ρ U Qd R S h k=>?_⟩
 refine l1 Z H ρ U _ _ S h fun d u ac H1 e1 S1 r h1=>?_
 obtain⟨ds,rfl,h1⟩:=h1
 obtain⟨a,us,rfl,ha,hn,ra⟩:=r ac H1 .refl
 refine⟨a,rfl,⟨us,SqL.of ha⟩,k ds ac H1 _ e1 S1 (fun ad H2 e2 ok2 i=>⟨fun hi=>?_,fun hi=>?_⟩) h1⟩
 ·have ha2:=e2.keep _ _ ha hn trivial
  have hiu:i<us.length:=by rw[<- ra.length];exact hi
  refine⟨⟨us,us[i],SqL.of ha2,by simp[hiu]⟩,fun x H' ⟨eH,hx⟩=>?_⟩
  subst eH
  obtain⟨u',h1',h2'⟩:=(ra.ext S1.mu e2).get (i:=i) (d:=ds[i]) (by simp[hi])
  have:=hx us (SqL.of ha2)
  rw[this] at h1'
  cases h1'
  exact⟨ds[i],by simp[hi],EV.refl _,h2'⟩
 ·have ha2:=e2.keep _ _ ha hn trivial
  exact⟨us,SqL.of ha2,by rw[<- ra.length];omega⟩
theorem Te{K:PySem.W.Frag}{U:Mu}{H:Hp}{ρ:Rho}{Z:St}{d:D}{u:V}(r:gQ K U H ρ Z)(h:RpD K U H d u):gQ K U H (ρ++[some d]) (Z++[some u]):=by
 refine⟨by simp[r.1],fun i x e=>?_⟩
 rcases lt_or_ge i ρ.length with z|z
 ·rw[getElem?_append_left z] at e
  obtain⟨v,h1,h2⟩:=r.2 i x e
  exact⟨v,by rw[getElem?_append_left (by rw[<- r.1];exact z)];exact h1,h2⟩
 ·rw[List.getElem?_append_right z] at e
  have zi:i-ρ.length=0:=by
   rcases Nat.eq_zero_or_pos (i-ρ.length) with q|q
   ·exact q
   ·rw[List.getElem?_eq_none (by simp;omega)] at e;cases e
  rw[zi] at e
  cases e
  exact⟨u,by rw[List.getElem?_append_right (by rw[<- r.1];exact z),<- r.1,zi];rfl,h⟩
noncomputable def IQ(cap:List (Option Nat))(src:DTE)(g:DTG)(te:Rho->PQ->DTE):DTE:=fun ρ U Q=>diQ src ρ U fun xs ac=>xs.length<=1000/\∃f:Nat->PyData,(∀(G:PQ) (i:Nat) (x:D),xs[i]? = some x->∀Y:Mu,(∀a ds,ac a=some ds->Y a=some ds)->g x (cy cap ρ++[some (D.q G)]) Y fun db ad=>Le (cy cap ρ++[some (D.q G)]) db/\te ρ G db ad fun d ce=>ce=Y/\d = .v (f i))/\Q (.v (.list ((List.range xs.length).map f))) ac
theorem Ql{X:Cx}{N':List Str}{gx:Str}{scope:Scope}{cl:List (Str×Addr)}{elt iter tg:Expr}{pos:Pos}{cap:List (Option Nat)}{src:DTE}{g:DTG}{te:Rho->PQ->DTE}(hc:X.calm=X.calm)
  (hi0:DE X iter src) (hg:∀fp bi bv,DG (bo X (N'++[gx]) scope cl fp bi bv) tg g)
  (he:∀fp bi bv pins Z ρ re (G:PQ),Inv X pins Z bv bi->St0 X.K bv ρ re Z->(∀b∈fp,∀x a,X.env.cells.lookup x=some a->a≠b)->(∀u U H,G X.K u U H->gQ X.K U H ρ Z)->DE (bo X (N'++[gx]) scope cl fp bi bv) elt (te ρ G))
  (hclos:closureFor scope X.env=pure cl) (hcell:∀y∈scope.names,y.2≠.cell) (hkind:scope.kind = .function) (hnames:∀y∈scope.names,y.2 = .local->scope.names.lookup y.1=some .local)
  (hcl:∀x a,cl.lookup x=some a->X.env.cells.lookup x=some a) (hhas:∀x,(relabel scope X.env).names.lookup x=some .cell\/(relabel scope X.env).names.lookup x=some .free->∃a,cl.lookup x=some a)
  (hlen:cap.length=N'.length) (hcap:∀(i j:Nat) (x:Str),cap[i]? = some (some j)->N'[i]? = some x->X.N[j]? = some x/\Vis X.env.scope x/\X.env.kindOf x≠some .local/\((relabel scope X.env).names.lookup x=some .cell\/(relabel scope X.env).names.lookup x=some .free))
  (hgx:(relabel scope X.env).names.lookup gx=none) (hs:∀x,foldedSetIterable iter X.env x=pure x:=by intro _;rfl):DE X (.ListComp elt [⟨tg,iter,[],0⟩] scope pos) (IQ cap src g te):=by
 refine G6 fun pins s Z H ρ U Qd Q I S h k=>?_
 obtain⟨wi,pw,li⟩:=YU (tg:=tg) hi0
 rw[eval_ListComp]
 refine wpAny_comprehension_free (use:=none) rfl hs hclos hkind hnames (thn (pw pins s Z H _ I (li Z H ρ U _ (fun J H1=>∃xs ac,Ext X.K U H ac H1/\St0 X.K H1 ρ ac Z/\TZ X.K J xs ac H1/\xs.length<=1000/\∃f:Nat->PyData,(∀(G:PQ) (i:Nat) (x:D),xs[i]? = some x->∀Y:Mu,(∀a ds,ac a=some ds->Y a=some ds)->g x (cy cap ρ++[some (D.q G)]) Y fun db ad=>Le (cy cap ρ++[some (D.q G)]) db/\te ρ G db ad fun d ce=>ce=Y/\d = .v (f i))/\Qd (.v (.list ((List.range xs.length).map f))) ac) S h (fun xs ac H1 J e1 S1 it q=>⟨xs,ac,e1,S1,it,q⟩)))
  fun v s1 h1=>thn h1 fun itv s2 h2=>?_)
 obtain⟨it,fp,tn,J,H2,rfl,I2,T,st2,f2,xs,ac,e1,S1,itok,hxs,f,body,fin⟩:=h2
 refine wpAny_newObj_type (wpAny_newFunctionEnv hcell (by intro y hy;simp at hy) (fun ii j' io=>?_) hkind)
 dsimp only at j' io ⊢
 have hfree2:H2 s2.heap.objs.size=none:=I2.hok.fresh (le_refl _)
 have hK2:X.K.lookup s2.heap.objs.size=none:=by
  cases z:X.K.lookup s2.heap.objs.size with
  |none=>rfl
  |some o=>exact absurd (Heap.lt_size (I2.kIn _ _ z)) (lt_irrefl _)
 have I3:Inv X pins Z (upd H2 s2.heap.objs.size (.lst [])) {s2 with heap:=s2.heap.push {cls:=.type "list",dict:=none,data:=.seq ([]:List Value).toArray}}:=
  I2.laid (t':=s2.toks) (fun b u e=>Heap.get?_push_of_some _ e) (le_refl _) ⟨zero_le _,[],0,.nil,Heap.get?_push_size _ rfl⟩
 generalize hH:s2.heap.push {cls:=.type "list",dict:=none,data:=.seq ([]:List Value).toArray} = hp3 at j' io I3 ⊢
 have hsz3:hp3.objs.size=s2.heap.objs.size+1:=by rw[<- hH,Heap.size_push]
 have kept3:∀b o,hp3.get? b=some o->ii.get? b=some o:=fun b o e=>io.extBut b o (ne_of_lt (Heap.lt_size e)) (Heap.get?_push_of_some _ e)
 have old3:∀b o,s2.heap.get? b=some o->hp3.get? b=some o:=fun b o e=>by rw[<- hH];exact Heap.get?_push_of_some _ e
 have fplt:∀b∈fp,b<s2.heap.objs.size:=fun b hb=>by obtain⟨o,e,_⟩:=T.obj 0 _ st2 b hb;exact Heap.lt_size e
 have fpst:∀b∈fp,b ∉ frs X.stack:=fun b hb hz=>by
  rcases List.mem_cons.mp (I2.rM b hz) with e|e
  ·exact (f2 b hb).2.1 e
  ·exact (f2 b hb).2.2.1 e
 obtain⟨s3,hs3⟩:∃s3:Shared,s3={s2 with heap:=hp3}:=⟨_,rfl⟩
 obtain⟨H3,hH3⟩:∃H3:Hp,H3=upd H2 s2.heap.objs.size (.lst []):=⟨_,rfl⟩
 have heap3:s3.heap=hp3:=by rw[hs3]
 rw[<- hH3] at I3
 have I3':Inv X pins Z H3 s3:=by rw[hs3];exact I3
 have hloc:H3 hp3.objs.size=none:=by have:=I3'.hok.fresh (a:=hp3.objs.size) (by rw[heap3];exact le_refl _);exact this
 have okc:(bo X (N'++[gx]) scope cl fp s3 H3).Ok:=by
  refine⟨I3.ok.mod,?_,I3.ok.glob,I3.ok.blt,le_refl _,fun x y a h1 h2=>I3.ok.inj x y a (hcl x a h1) (hcl y a h2),fun x hx=>hhas x hx,fun x a h=>(nomatch h),I3.ok.hd,I3.ok.qt,I3.ok.frames,.inl rfl,fun b hb=>⟨?_,fun x a h=>(f2 b hb).2.2.2.2.1 x a (hcl x a h)⟩,
   I3'.bs,le_trans I3.ok.bsz I3'.sz,fun b o e hb=>?_,fun b hb=>fpst b hb,I3'.stack,I3'.xw⟩
  ·exact hkind
  ·show b≠s3.heap.objs.size
   rw[heap3,hsz3]
   exact ne_of_lt (lt_succ_of_lt (fplt b hb))
  ·rcases (f2 b hb).2.2.2.1 with z|z
   ·exact I3.ok.Ih b o e z
   ·exact absurd (lt_of_lt_of_le (Heap.lt_size (I3.ok.bs b o e).1) z) (lt_irrefl _)
 have I4:Inv (bo X (N'++[gx]) scope cl fp s3 H3) [] (cy cap Z++[some .non]) H3 {s2 with heap:=ii,toks:=s2.toks+([]:List (Str×Value)).length}:=by
  refine⟨okc,by show s2.os=s3.os;rw[hs3],I3.bare,Un.kept (by show ∀b o,s3.heap.get? b=some o->_;rw[heap3];exact kept3),⟨_,(by show ii.Ns s3.heap.objs.size _;rw[heap3];exact j'),fun i x v e1 e2 e3=>?_⟩,fun x a h=>?_,(by show H3 s3.heap.objs.size=none;rw[heap3];exact hloc),fun x a h=>I3.lJ x a (hcl x a h),fun p hp=>?_,I3.hok.kept kept3,?_⟩
  ·have lenS:(cy cap Z).length=N'.length:=by unfold cy;rw[length_map];exact hlen
   have hlt:i<N'.length:=by
    rcases Nat.lt_trichotomy i N'.length with z|z|z
    ·exact z
    ·exfalso
     have e1':(N'++[gx])[i]? = some x:=e1
     rw[z,List.getElem?_append_right (le_refl _),Nat.sub_self] at e1'
     have:gx=x:=by simpa using e1'
     subst this
     have e3':Vis (relabel scope X.env) gx:=e3
     rcases e3' with q|q|q<;>rw[hgx] at q<;>cases q
    ·exfalso
     have e1':(N'++[gx])[i]? = some x:=e1
     rw[List.getElem?_eq_none (by simp;omega)] at e1'
     cases e1'
   have e1:N'[i]? = some x:=by have q:(N'++[gx])[i]? = some x:=e1;rwa [getElem?_append_left hlt] at q
   have e2:(cy cap Z)[i]? = some (some v):=by rwa [getElem?_append_left (by rw[lenS];exact hlt)] at e2
   obtain⟨j,h1,h2⟩:=tP e2
   obtain⟨hN,hv,hnl,hk⟩:=hcap i j x h1 e1
   obtain⟨m,_,hl⟩:=I3.loc
   obtain⟨u,r,lk⟩:=hl j x v hN h2 hv
   refine⟨u,r,.inr ⟨hk,?_⟩⟩
   obtain⟨a,ha⟩:=hhas x hk
   rcases lk with ⟨z,_⟩|⟨_,a',z1,z2⟩
   ·exact absurd z hnl
   ·have:a'=a:=by have q:=hcl x a ha;rw[z1] at q;exact Option.some.inj q
    subst this
    obtain⟨o,ho,hd⟩:=z2
    exact⟨a',ha,o,kept3 _ _ ho,hd⟩
  ·obtain⟨v,o,ho,hd⟩:=I3.cell x a (hcl x a h)
   exact⟨v,o,kept3 _ _ ho,hd⟩
  ·have hp':p∈X.pn++pins:=mem_append_left _ (by simpa using (show p∈X.pn++[] from hp))
   obtain⟨z1,z2,z3,z4,z5⟩:=I3'.pin p hp'
   refine⟨kept3 _ _ (by rw[<- heap3];exact z1),z2,(show p.1≠s3.heap.objs.size from ne_of_lt (Heap.lt_size z1)),fun z=>?_,z5⟩
   rcases List.mem_cons.mp (I3'.rM p.1 z) with e|e
   ·exact z3 e
   ·exact z4 e
  ·show (cy cap Z++[some V.non]).length=(N'++[gx]).length
   unfold cy
   rw[length_append,length_append,length_map,hlen]
   rfl
 have ln:ac s2.heap.objs.size=none:=S1.mu.free hfree2
 have sub1:∀ys a ds,ac a=some ds->aR ac s2.heap.objs.size ys a=some ds:=fun ys a ds e=>by
  have:a≠s2.heap.objs.size:=fun z=>by rw[z,ln] at e;cases e
  rw[bR this];exact e
 obtain⟨G,hG⟩:∃G:PQ,G=fun K _ U H=>gQ K U H ρ Z:=⟨_,rfl⟩
 have hGr:∀u U H,G X.K u U H->gQ X.K U H ρ Z:=fun u U H h=>by rw[hG] at h;exact h
 have S3r:St0 X.K H3 ρ ac Z:=by rw[hH3];exact S1.new hfree2
 have loop:codeAny (model X.prog X.w) X.A (.compLoop (.ListComp elt [⟨tg,iter,[],0⟩] scope pos) 0 (.ref it) (.ref s2.heap.objs.size) (bo X (N'++[gx]) scope cl fp s3 H3).env)
   (compPost (model X.prog X.w) X.A X.xe none (EP X pins Z Q) (.ref s2.heap.objs.size) hp3.objs.size) {s2 with heap:=ii,toks:=s2.toks+([]:List (Str×Value)).length}:=by
  refine g9 (fun n s'=>∃(i:Nat) (dl:St) (Hc:Hp),n=xs.length-i/\i<=xs.length/\Inv (bo X (N'++[gx]) scope cl fp s3 H3) [] dl Hc s'/\tn i s'.heap/\(∀b∈fp,Hc b=none) /\
   St0 X.K Hc (cy cap ρ++[some (D.q G)]) (aR ac s2.heap.objs.size ((List.range i).map f)) dl/\Ext X.K ac H2 (aR ac s2.heap.objs.size ((List.range i).map f)) Hc) ?_ xs.length
   ⟨0,cy cap Z++[some .non],H3,by simp,zero_le _,I4,T.keep 0 _ _ st2 (fun b hb o e=>kept3 b o (old3 b o e)),fun b hb=>?_,?_,?_⟩
  ·rintro n s' ⟨i,dl,Hc,rfl,hi,Ic,tc,frc,Sc,Ec⟩
   have stat:∀{Hd:Hp},(∀b∈fp,Hd b=none)->∀b∈fp,C6 (bo X (N'++[gx]) scope cl fp s3 H3) [] Hd b:=fun hn b hb=>
    ⟨hn b hb,(okc.exf b hb).1,fpst b hb,.inl hb,fun x a h=>(okc.exf b hb).2 x a h,fun p hp=>(f2 b hb).2.2.2.2.2 p (mem_append_left _ (by simpa using (show p∈X.pn++[] from hp)))⟩
   obtain⟨go,stop⟩:=itok _ Hc Ec Sc.mu i
   by_cases hlt:i<xs.length
   ·obtain⟨g1,y1⟩:=go hlt
    refine thn (T.item (bo X (N'++[gx]) scope cl fp s3 H3) rfl rfl rfl (fun z=>z) i [] s' dl Hc (fun _ _=>False) Ic (stat frc) tc g1) fun r s4 ⟨u,hr,h4⟩=>?_
    subst hr
    refine thn h4 fun _ s5 ⟨x,H5,I5,r5,y5,st5,fr5⟩=>?_
    obtain⟨d,hd,sm,rd⟩:=y1 x H5 y5
    have I5':=I5.pinned (stat fr5) (T.obj _ _ st5)
    have e5:Ext X.K _ Hc _ H5:=.of_same (U:=aR ac s2.heap.objs.size ((List.range i).map f)) sm
    have S5:St0 X.K H5 (cy cap ρ++[some (D.q G)]) (aR ac s2.heap.objs.size ((List.range i).map f)) dl:=⟨Sc.mu.PD e5 sm,Sc.rho.ext Sc.mu e5⟩
    obtain⟨gt,pg,lg⟩:=hg fp s3 H3
    have hmem:d∈xs:=mem_of_getElem? hd
    refine thn (pg _ s5 dl H5 x u (fun al H'=>∃am Y,Ext X.K (aR ac s2.heap.objs.size ((List.range i).map f)) H5 Y H'/\St0 X.K H' am Y al/\Le (cy cap ρ++[some (D.q G)]) am/\te ρ G am Y fun d' ce=>ce=aR ac s2.heap.objs.size ((List.range i).map f)/\d' = .v (f i)) I5' r5
     (lg dl H5 (cy cap ρ++[some (D.q G)]) _ d x _ _ S5 rd (body G i d hd _ (sub1 _)) fun al am Y H' e' S' q=>⟨am,Y,e',S',q⟩)) fun _ s6 ⟨gV,H6,I6,ld,lf,e6,S6,le6,q6⟩=>?_
    have again:∀{H9:Hp} {s9:Shared},Inv (bo X (N'++[gx]) scope cl fp s3 H3) ([]++vK fp s5.heap) gV H9 s9->dj X.K (aR ac s2.heap.objs.size ((List.range (i+1)).map f)) H9->gQ X.K (aR ac s2.heap.objs.size ((List.range (i+1)).map f)) H9 (cy cap ρ++[some (D.q G)]) gV ->
      Ext X.K ac H2 (aR ac s2.heap.objs.size ((List.range (i+1)).map f)) H9->∃m,m<xs.length-i/\∃(i:Nat) (dl:St) (Hc:Hp),m=xs.length-i/\i<=xs.length/\Inv (bo X (N'++[gx]) scope cl fp s3 H3) [] dl Hc s9/\tn i s9.heap/\(∀b∈fp,Hc b=none) /\
       St0 X.K Hc (cy cap ρ++[some (D.q G)]) (aR ac s2.heap.objs.size ((List.range i).map f)) dl/\Ext X.K ac H2 (aR ac s2.heap.objs.size ((List.range i).map f)) Hc:=fun {H9 s9} I9 m9 r9 e9=>by
     refine⟨xs.length-(i+1),∅,i+1,gV,H9,rfl,hlt,I9.nY,T.keep _ _ _ st5 fun b hb o e=>(I9.pin (b,o) (mem_append_right _ (mem_append_right _ (eP hb e)))).1,fun b hb=>?_,⟨m9,r9⟩,e9⟩
     obtain⟨o,e,_⟩:=T.obj _ _ st5 b hb
     exact (I9.pin (b,o) (mem_append_right _ (mem_append_right _ (eP hb e)))).2.1
    refine wpAny_tests_nil (BX ?_)
    ·skip
     obtain⟨t8,p8,l8⟩:=he fp s3 H3 pins Z ρ ac G I3' S3r (fun b hb x a h=>(f2 b hb).2.2.2.2.1 x a h) hGr
     refine thn (p8 _ s6 gV H6 (fun v H'=>∃y,Ext X.K lf H6 (aR ac s2.heap.objs.size ((List.range i).map f)) H'/\St0 X.K H' ld (aR ac s2.heap.objs.size ((List.range i).map f)) gV/\Rp X.K (aR ac s2.heap.objs.size ((List.range i).map f)) H' y v/\f i=y) I6
      (l8 gV H6 ld lf _ _ S6 q6 fun d' v jp H8 e8 S8 r8 q8=>?_)) fun v s8 ⟨v8,H8,I8,r8,y,e8,S8,ry,fy⟩=>?_
     ·obtain⟨rfl,rfl⟩:=q8
      exact⟨_,e8,S8,r8,rfl⟩
     ·obtain⟨us,hacc,rus⟩:=S8.mu s2.heap.objs.size _ bP
      have hle:((List.range i).map f).length<=1000:=by rw[length_map,List.length_range];omega
      refine thn (sr (X:=bo X (N'++[gx]) scope cl fp s3 H3) _ s8 gV H8 (.ref s2.heap.objs.size) [v8] (.ref s2.heap.objs.size) [v] (fun _ H'=>H'=upd H8 s2.heap.objs.size (.lst (us++[v8]))) I8 rfl (.cons r8 .nil) ⟨_,us,v8,rfl,rfl,hacc,by rw[<- rus.length];exact gm hle,rfl⟩) fun _ s9 ⟨_,H9,I9,_,e9⟩=>?_
      subst e9
      have et:(List.range (i+1)).map f=(List.range i).map f++[y]:=by rw[List.range_succ,map_append,<- fy];rfl
      have mset:aR (aR ac s2.heap.objs.size ((List.range i).map f)) s2.heap.objs.size ((List.range (i+1)).map f)=aR ac s2.heap.objs.size ((List.range (i+1)).map f):=pL
      have ex:Ext X.K (aR ac s2.heap.objs.size ((List.range i).map f)) H8 (aR ac s2.heap.objs.size ((List.range (i+1)).map f)) (upd H8 s2.heap.objs.size (.lst (us++[v8]))):=by
       rw[<- mset]
       exact pB bP
      refine again I9 ?_ ((S8.rho.le le6).ext S8.mu ex) (Ec.trans (e5.trans (e6.trans (e8.trans ex))))
      rw[<- mset]
      refine S8.mu.set bP ?_
      rw[et]
      exact rus.append (.cons ry .nil)
   ·have ei:i=xs.length:=by omega
    subst ei
    refine thn (T.done (bo X (N'++[gx]) scope cl fp s3 H3) rfl rfl rfl (fun z=>z) _ [] s' dl Hc (fun _ _=>False) Ic (stat frc) tc (stop rfl)) fun r s4 ⟨hr,I5⟩=>?_
    subst hr
    obtain⟨m,hn,_⟩:=I5.loc
    refine⟨m,(by have z:s4.heap.Ns s3.heap.objs.size m:=hn;rw[heap3] at z;exact z),fun h' hs'=>?_⟩
    have kp:∀b o,b<s2.heap.objs.size->s4.heap.get? b=some o->h'.get? b=some o:=fun b o hb e=>hs'.extBut b o (by rw[hsz3];exact ne_of_lt (lt_succ_of_lt hb)) e
    have hcC:Hc hp3.objs.size=none:=by have z:Hc s3.heap.objs.size=none:=I5.free;rw[heap3] at z;exact z
    have hok':HOk X.prog X.w Hc h':=fun b ob e=>by
     refine (I5.hok b ob e).Bi (fun cc v hcc q=>hs'.extBut cc v ?_ q) (fun _ q=>q) fun _ _ q=>q
     rintro rfl
     rcases hcc with z|z
     ·rw[<- z,hcC] at e;cases e
     ·rw[hcC] at z;cases z
    have u1:Un (frs X.stack) fp H2 H3 s2.heap s3.heap:=by rw[heap3,hH3];exact Un.laid old3 (le_refl _) hfree2
    have u2:Un (frs X.stack) fp H3 Hc s3.heap s4.heap:=I5.base
    have If:Inv X pins Z Hc {s4 with heap:=h'}:=I2.DU (ch:=fp) (by show s4.os=s2.os;have z:s4.os=s3.os:=I5.os;rw[z,hs3]) (Un.after (u1.trans u2) kp) hok' I5.bare fun b hb=>⟨(f2 b hb).2.2.2.1,(f2 b hb).2.1,(f2 b hb).2.2.2.2.1,(f2 b hb).2.2.2.2.2⟩
    obtain⟨us,hacc,rus⟩:=Sc.mu s2.heap.objs.size _ bP
    have shr:∀a,aR ac s2.heap.objs.size ((List.range xs.length).map f) a=none->ac a=none:=fun a e=>by
     by_cases ha:a=s2.heap.objs.size
     ·rw[ha];exact ln
     ·rw[bR ha] at e;exact e
    have eF:Ext X.K ac H2 ac Hc:=⟨Ec.keep,Ec.tb,fun _ ds q=>⟨ds,q⟩,fun _ q _=>q⟩
    have mF:dj X.K ac Hc:=⟨fun a ds q=>by
     obtain⟨ys,z1,z2⟩:=Sc.mu a ds (sub1 _ a ds q)
     exact⟨ys,z1,z2.shrink shr⟩,Sc.mu.tab⟩
    exact⟨.ref s2.heap.objs.size,Hc,If,rfl,k (.v (.list ((List.range xs.length).map f))) _ ac Hc (e1.trans eF) ⟨mF,S1.rho.ext S1.mu eF⟩ (Rp.list hacc ln (rus.shrink shr)) fin⟩
  ·have z:b≠s2.heap.objs.size:=ne_of_lt (fplt b hb)
   rw[hH3,cw z]
   exact (f2 b hb).1
  ·have ex:=nJ (o:=.lst []) (ds:=[]) S1.mu hfree2 hK2
   rw[hH3]
   exact⟨S1.mu.mut .nil hfree2 hK2,Te (S1.rho.ext S1.mu ex).cap (fun Y H' e'=>by rw[hG];exact (S1.rho.ext S1.mu ex).ext (S1.mu.mut .nil hfree2 hK2) e')⟩
  ·rw[hH3]
   exact nJ (o:=.lst []) (ds:=[]) S1.mu hfree2 hK2
 have envE:(bo X (N'++[gx]) scope cl fp s3 H3).env=compEnvC scope cl hp3.objs.size X.env:=by show compEnvC scope cl s3.heap.objs.size X.env=_;rw[heap3]
 rw[envE] at loop
 exact codeAny_compStart_list loop (T.self X.A 0 _ _ _ (T.keep 0 _ _ st2 (fun b hb o e=>kept3 b o (old3 b o e))) loop)
structure L4 where
 P:PQ
 cap:List (Option Nat)
 tx:DTX
 nm:PyData
noncomputable def Rg(mt:Rho)(G:PQ)(gi vi:Nat)(tb:List L4):DTE:=fun ρ U Q=>ρ[gi]? = some (some (.q G))/\∃e∈tb,ρ[vi]? = some (some (.q e.P))/\e.tx (cy e.cap mt) U fun Y=>Q (.v e.nm) Y
noncomputable def MZ(X:Cx)(k:Nat)(f:Addr)(fd:FuncData)(dn:Str)(e:L4):Prop:=
 ∃(C:Value) (q:Str) (params:Arguments) (body:Expr) (lsc:Scope) (cl:List (Str×Addr)) (N':List Str) (nm:Str),e.nm = .str nm/\e.P=TK q params body lsc cl/\Cu X.prog X.w X.K X.mg X.base k f fd dn C nm /\
  (∀(A':Around) (outer':List Env) (s':Shared) (H':Hp) (fa c1:Addr) (E:XK),j5 (k-1) (xV X.prog X.w X.K X.mg X.base N' lsc cl (cS q) fa c1 A' outer' s' H' E).A->XE (xV X.prog X.w X.K X.mg X.base N' lsc cl (cS q) fa c1 A' outer' s' H' E) E C body e.tx) /\
  (∀(pm ctv:Value) (c1:Addr),bindArgs (kla_fn "<lambda>" (cS q) params body lsc cl pm (.ref c1) ctv) ⟨[],[]⟩=pure [])/\lsc.kind = .function/\lsc.isCoroutine=false/\lsc.isGenerator=false/\(∀y∈lsc.names,y.2≠.cell) /\
  (∀x a,cl.lookup x=some a->X.env.cells.lookup x=some a)/\(∀x,lsc.names.lookup x=some .cell\/lsc.names.lookup x=some .free->∃a,cl.lookup x=some a)/\e.cap.length=N'.length /\
  (∀(i j:Nat) (x:Str),e.cap[i]? = some (some j)->N'[i]? = some x->X.N[j]? = some x/\Vis X.env.scope x/\X.env.kindOf x≠some .local/\lsc.names.lookup x=some .free)
theorem lO{X:Cx}{k:Nat}{f:Addr}{fd:FuncData}{dn q nm:Str}{C:Value}{params:Arguments}{body:Expr}{lsc:Scope}{cl:List (Str×Addr)}{N':List Str}{cap:List (Option Nat)}{tx:DTX}
  (R:Cu X.prog X.w X.K X.mg X.base k f fd dn C nm) (he:∀(A':Around) (outer':List Env) (s':Shared) (H':Hp) (fa c1:Addr) (E:XK),j5 (k-1) (xV X.prog X.w X.K X.mg X.base N' lsc cl (cS q) fa c1 A' outer' s' H' E).A->XE (xV X.prog X.w X.K X.mg X.base N' lsc cl (cS q) fa c1 A' outer' s' H' E) E C body tx)
  (hbind:∀(pm ctv:Value) (c1:Addr),bindArgs (kla_fn "<lambda>" (cS q) params body lsc cl pm (.ref c1) ctv) ⟨[],[]⟩=pure [])
  (hkind:lsc.kind = .function) (hco:lsc.isCoroutine=false) (hgen:lsc.isGenerator=false) (hcell:∀y∈lsc.names,y.2≠.cell) (hcl:∀x a,cl.lookup x=some a->X.env.cells.lookup x=some a) (hhas:∀x,lsc.names.lookup x=some .cell\/lsc.names.lookup x=some .free->∃a,cl.lookup x=some a)
  (hlen:cap.length=N'.length) (hcap:∀(i j:Nat) (x:Str),cap[i]? = some (some j)->N'[i]? = some x->X.N[j]? = some x/\Vis X.env.scope x/\X.env.kindOf x≠some .local/\lsc.names.lookup x=some .free) :
  MZ X k f fd dn ⟨TK q params body lsc cl,cap,tx,.str nm⟩:=⟨C,q,params,body,lsc,cl,N',nm,rfl,rfl,R,he,hbind,hkind,hco,hgen,hcell,hcl,hhas,hlen,hcap⟩
noncomputable def HY(X:Cx)(k:Nat)(f:Addr)(fd:FuncData)(dn:Str)(tb:List L4):Prop:=∀e∈tb,MZ X k f fd dn e
theorem Qj{X:Cx}{k:Nat}{f:Addr}{fd:FuncData}{dn:Str}:HY X k f fd dn []:=fun _ h=>nomatch h
theorem cU{X:Cx}{k:Nat}{f:Addr}{fd:FuncData}{dn:Str}{e:L4}{tb:List L4}(h:MZ X k f fd dn e)(t:HY X k f fd dn tb):HY X k f fd dn (e::tb):=fun x hx=>by
 rcases List.mem_cons.mp hx with rfl|hx
 ·exact h
 ·exact t x hx
theorem Mk{X:Cx}{k:Nat}{f:Addr}{fd:FuncData}{dn rn vn:Str}{na:List Str}{scope:Scope}{lw:List (Str×Addr)}{fp:List Addr}{bi:Shared}{bv:Hp}{pins:List (Addr×Obj)}{Z:St}{mt:Rho}{G:PQ}{gi vi:Nat}{tb:List L4}{p pv pos:Pos}
  (I3:Inv X pins Z bv bi) (hfp:∀b∈fp,∀x a,X.env.cells.lookup x=some a->a≠b) (hG:∀u U H,G X.K u U H->gQ X.K U H mt Z) (T:HY X k f fd dn tb)
  (hr:j5 (k+1) X.A) (hk0:0<k) (hg:Gl (bo X na scope lw fp bi bv) rn) (hm:X.mg rn=some (.ref f)) (hk:keepIn X.K (.ref f)=true) (hb:Binds X.K fd [dn] [])
  (hN:na[vi]? = some vn) (hv:Vis (bo X na scope lw fp bi bv).env.scope vn)
  (hdb:(rn==("__debug__":Str))=false:=by decide) (hd:(vn==("__debug__":Str))=false:=by decide) (hcd:(vn==("__classdict__":Str))=false:=by decide)
  (hst:starEach [.Name vn pv] (bo X na scope lw fp bi bv).env=[(false,eval (.Name vn pv) (bo X na scope lw fp bi bv).env)]:=by rfl) :
  DE (bo X na scope lw fp bi bv) (.Call (.Name rn p) [.Name vn pv] [] pos) (Rg mt G gi vi tb):=by
 refine G6 fun pins' s' al H' am Y Qd Q I S h kk=>?_
 obtain⟨hgi,e,he,hvi,htx⟩:=h
 obtain⟨C,q,params,body,lsc,cl,N',nm,hnm,hP,R,hbody,hbind,hkind,hco,hgen,hcell,hcl,hhas,hlen,hcap⟩:=T e he
 obtain⟨ug,hug,rg⟩:=S.rho.2 gi _ hgi
 have rr:gQ X.K Y H' mt Z:=hG ug Y H' (rg Y H' .refl)
 obtain⟨ul,hul,rl⟩:=S.rho.2 vi _ hvi
 rw[hP] at rl
 rw[hnm] at htx
 obtain⟨fa,c1,rfl,hfa,hc1,n1,n2⟩:=rl Y H' .refl
 refine wpAny_Call_Name_kw (Ac I hg hm ?_ hdb)
 have pa:PA (bo X na scope lw fp bi bv) [.Name vn pv] (Ug (Vd vi) Wx):=kX (L5 hN hv hd hcd) we (by rw[hst];rfl)
 refine PySem.W.callWith_K (h₀:=X.base) I.ok.mod.kin hk (thn (pa pos pins' s' al H' (fun xs H1=>xs=[.ref fa]/\H1=H') I ⟨.ref fa,hul,rfl,rfl⟩) fun us s1 ⟨vs,H1,I1,r,z1,z2⟩=>⟨I1.kIn,?_⟩) (by rw[hst];rfl) rfl
 subst z1 z2
 obtain rfl:us=[.ref fa]:=by
  cases r with
  |cons r1 r2=>cases r2;cases r1;rfl
 refine wpAny_call (codeAny_mono (R.run X.A X.stack s1 H1 fa (fun H'=>∃bd,Ext X.K Y H1 bd H'/\dj X.K bd H'/\Qd (.v (.str nm)) bd) Q hr I1.VP (hb s1 [.ref fa] I1.kIn rfl) (fun A' outer' s' hr' e0' un=>?_) fun H' ⟨bd,e',ok',q'⟩=>?_) fun r s' hq'=>?_)
 ·obtain⟨⟨pm,ctv,ho'⟩,_,_⟩:=e0'.hok fa _ hfa
  refine⟨⟨_,_,_,_,ho'⟩,?_⟩
  obtain⟨k',rfl⟩:∃k',k=k'+1:=⟨k-1,∅⟩
  obtain⟨t,pe,l⟩:=hbody A' outer' s' H1 fa c1 (fun cls _ H'=>cls=C/\∃bd,Ext X.K Y H1 bd H'/\dj X.K bd H'/\Qd (.v (.str nm)) bd) (hr'.deeper _)
  have base:Un (bo X na scope lw fp bi bv).fs fp bv H1 bi.heap s1.heap:=I1.base
  have nfp:∀x cc,X.env.cells.lookup x=some cc->cc ∉ fp:=fun x cc hx z=>hfp cc z x cc hx rfl
  have frC:∀x cc,X.env.cells.lookup x=some cc->H1 cc=none:=fun x cc hx=>by
   obtain⟨v,oc,ec,dc⟩:=I3.cell x cc hx
   exact base.free cc oc ec (I3.lJ x cc hx) (nfp x cc hx)
  have cellK:∀x cc v,X.env.cells.lookup x=some cc->bi.heap.IsCell cc v->s'.heap.IsCell cc v:=fun x cc v hx ⟨oc,ec,dc⟩=>by
   obtain⟨sl,e2⟩:=base.any ec (I3.lJ x cc hx) (nfp x cc hx)
   obtain⟨sl',e3⟩:=un.any e2 (frC x cc hx) (fun z=>nomatch z)
   exact⟨_,e3,dc⟩
  refine Qi (Z:=cy e.cap Z) (N:=N') hkind hco hgen hcell hr' e0' ho' hc1 (hbind pm ctv c1) ⟨fun x cc hx=>?_,fun x cc hx=>frC x cc (hcl x cc hx),fun x y cc h1 h2=>I3.ok.inj x y cc (hcl x cc h1) (hcl y cc h2),hhas,fun i x v h1 h2 h3=>?_,?_⟩ pe (l _ H1 (cy e.cap mt) Y (fun bd=>Qd (.v (.str nm)) bd) _ ⟨S.mu,rr.cap⟩ htx fun bd H' e' ok' q'=>⟨rfl,bd,e',ok',q'⟩)
  ·obtain⟨v,hv⟩:=I3.cell x cc (hcl x cc hx)
   exact⟨v,cellK x cc v (hcl x cc hx) hv⟩
  ·obtain⟨j,j1,j2⟩:=tP h2
   obtain⟨hN,hv,hnl,hfree⟩:=hcap i j x j1 h1
   obtain⟨m,_,hll⟩:=I3.loc
   obtain⟨u,ru,lk⟩:=hll j x v hN j2 hv
   obtain⟨a,ha⟩:=hhas x (.inr hfree)
   rcases lk with ⟨z,_⟩|⟨_,a',z1,z2⟩
   ·exact absurd z hnl
   ·obtain rfl:a'=a:=by have qq:=hcl x a ha;rw[z1] at qq;exact Option.some.inj qq
    exact⟨u,a',ru,hfree,ha,cellK x a' _ z1 z2⟩
  ·unfold cy;rw[length_map];exact hlen
 ·exact⟨bd,ok',fun H'' e'' ok''=>kk (.v (.str nm)) (.str nm) bd H'' (e'.trans e'') ⟨ok'',S.rho.ext S.mu (e'.trans e'')⟩ (Rp.str nm) q'⟩
 ·cases r with
  |error e=>exact hq'.elim
  |ok fl=>
   cases fl with
   |ret u=>exact I1.after hq'
   |next=>exact hq'.elim
   |brk=>exact hq'.elim
   |cont=>exact hq'.elim
abbrev Kq:=List D->Rho->Mu->(Rho->Mu->Prop)->Prop
noncomputable def V8(K:PySem.W.Frag)(g:TGs)(gd:Kq):Prop:=∀(Z:St) (H:Hp) (ρ:Rho) (U:Mu) (ds:List D) (us:List V) (Qd:Rho->Mu->Prop) (Q:St->Hp->Prop),St0 K H ρ U Z->n5 K U H ds us->gd ds ρ U Qd ->
 (∀al am Y H',Ext K U H Y H'->St0 K H' am Y al->Qd am Y->Q al H')->g us Z H Q
noncomputable def DGq(X:Cx)(tg:List Expr)(gd:Kq):Prop:=∃g,PGs X tg g/\V8 X.K g gd
def R1:Kq:=fun ds ρ U Q=>match ds with
 |[]=>Q ρ U
 |_=>False
def FR(g:DTG)(gs:Kq):Kq:=fun ds ρ U Q=>match ds with
 |d::r=>g d ρ U fun o0 ac=>gs r o0 ac Q
 |_=>False
theorem SA{X:Cx}:DGq X [] R1:=⟨_,N2,fun Z H ρ U ds us Qd Q S r h k=>by
 cases r with
 |nil=>exact⟨rfl,k Z ρ U H .refl S h⟩
 |cons _ _=>exact h.elim⟩
theorem Kc{X:Cx}{e:Expr}{es:List Expr}{g:DTG}{gs:Kq}(h1:DG X e g)(h2:DGq X es gs)(hs:(assignEach (e::es) X.env).map (·.2)=assign e X.env::(assignEach es X.env).map (·.2):=by rfl):DGq X (e::es) (FR g gs):=by
 obtain⟨t1,p1,l1⟩:=h1
 obtain⟨t2,p2,l2⟩:=h2
 refine⟨_,J7 p1 p2 hs,fun Z H ρ U ds us Qd Q S r h k=>?_⟩
 cases r with
 |nil=>exact h.elim
 |@cons d u ds us r1 r2=>
  refine⟨u,us,rfl,l1 Z H ρ U d u _ _ S r1 h fun al am Y H' e1 S' h1=>?_⟩
  exact l2 al H' am Y ds us _ _ S' (r2.ext S.mu e1) h1 fun a b c d e2=>k a b c d (e1.trans e2)
noncomputable def Q8(n:Nat)(gs:Kq):DTG:=fun d ρ U Q=>∃ds,d = .q (QT ds)/\ds.length=n/\gs ds ρ U Q
theorem TN{X:Cx}{es:List Expr}{pos:Pos}{k n:Nat}{gs:Kq}(hc:X.calm=X.calm)(h:DGq X es gs)
  (hn:(assignEach es X.env).length=n:=by rfl) (hst:(assignEach es X.env).findIdx? (·.1)=none:=by rfl):DG X (.Tuple es k pos) (Q8 n gs):=by
 obtain⟨t1,p1,l1⟩:=h
 refine⟨_,RS hc p1 hn hst,fun Z H ρ U d u Qd Q S r h k=>?_⟩
 obtain⟨ds,rfl,hl,h⟩:=h
 obtain⟨a,us,rfl,ha,ra⟩:=r U H .refl
 exact⟨a,us,rfl,.inl (.inl ha),by rw[<- ra.length];exact hl,l1 Z H ρ U _ us _ _ S ra h k⟩
theorem Mb{ρ:Rho}{U:Mu}{Q:DK}{i:Nat}{tb:List L4}(hi:ρ[i]? = some (some (.q (QL (tb.map fun e=>.q (QT [.v e.nm,.q e.P]))))))(hl:tb.length<=1000)(hs:∀e∈tb,SeqAt.shaped e.nm=true)
  (htx:∀e∈tb,∀Y:Mu,(∀a es,U a=some es->Y a=some es)->∀Xk:Mu->Prop,Xk Y->e.tx (cy e.cap ρ) Y Xk) (q:Q (.v (.list ((List.range tb.length).map fun _=>.bool true))) U) :
  IQ [none,none] (ag i) (Q8 2 (FR (ar 0) (FR (ar 1) R1))) (fun mt G=>dOp (cW false) (Rg mt G 2 1 tb) (ag 0)) ρ U Q:=by
 unfold IQ diQ ag
 rw[hi]
 refine⟨_,rfl,by rw[length_map];exact hl,fun _=>.bool true,fun G j x hx Y sub=>?_,by rw[length_map];exact q⟩
 rw[getElem?_map] at hx
 cases he:tb[j]? with
 |none=>rw[he] at hx;cases hx
 |some e=>
  rw[he] at hx
  cases hx
  have hm:=mem_of_getElem? he
  have hs:=hs e hm
  refine⟨_,rfl,rfl,⟨rfl,trivial⟩,rfl,e,hm,rfl,htx e hm Y sub _ ?_⟩
  exact⟨hs,hs,rfl,by rw[SeqAt.eqv_refl _ (SeqAt.canLay_of_shaped hs)];rfl⟩
theorem Ys{P:PQ}{ρ:Rho}{U:Mu}{Q:DK}:dKq P ρ U Q=Q (.q P) U:=propext Iff.rfl
theorem U2{t:DTA}{ρ:Rho}{U:Mu}{Q:DK}:PR t ρ U Q=t ρ U fun ds ac=>Q (.q (QL ds)) ac:=propext Iff.rfl
theorem V5{t:DTA}{ρ:Rho}{U:Mu}{Q:DK}:j3 t ρ U Q=t ρ U fun ds ac=>Q (.q (QT ds)) ac:=propext Iff.rfl
mutual
theorem Rp.sub{K:PySem.W.Frag}{U ac:Mu}{H:Hp}(h:∀a,ac a=none->U a=none):∀{d:PyData} {u:V},Rp K ac H d u->Rp K U H d u
 |_,_,.none=>.none
 |_,_,.bool b=>.bool b
 |_,_,.int i=>.int i
 |_,_,.str x=>.str x
 |_,_,.list a b c=>.list a (h _ b) (RpL.sub h c)
 |_,_,.tuple a c=>.tuple a (RpL.sub h c)
theorem RpL.sub{K:PySem.W.Frag}{U ac:Mu}{H:Hp}(h:∀a,ac a=none->U a=none):∀{ds:List PyData} {us:List V},RpL K ac H ds us->RpL K U H ds us
 |_,_,.nil=>.nil
 |_,_,.cons a b=>.cons (Rp.sub h a) (RpL.sub h b)
end
noncomputable def ej(tx:DTX):DTX:=fun ρ U Xk=>tx ρ U fun Y=>(∀a ds,U a=some ds->Y a=some ds)/\Xk U
theorem cV{X:Cx}{E:XK}{C:Value}{e:Expr}{tx:DTX}(h:XE X E C e tx):XE X E C e (ej tx):=by
 obtain⟨t,p,l⟩:=h
 refine⟨t,p,fun Z H ρ U Xk Q S ht w=>l Z H ρ U _ Q S ht fun Y H' e ok ⟨sub,x⟩=>w U H' ⟨e.keep,e.tb,fun b ds z=>⟨ds,z⟩,fun _ z _=>z⟩ ⟨fun a ds z=>?_,ok.tab⟩ x⟩
 obtain⟨xs,h1,h2⟩:=ok.lst a ds (sub a ds z)
 refine⟨xs,h1,h2.sub fun b hb=>?_⟩
 cases z':U b with
 |none=>rfl
 |some es=>rw[sub b es z'] at hb;cases hb
end L2.DL
set_option maxHeartbeats 1000000
namespace NM
end NM
set_option maxHeartbeats 4000000
namespace NM
end NM
namespace NM
noncomputable def Ht(d:Int)(n:Nat)(x:N3):Prop:=∃a b e f:Int,Sz n a/\Sz n b/\Sz n e/\Sz n f/\e*e-d*f*f≠0/\x.a*e+d*x.b*f=a*x.c/\x.a*f+x.b*e=b*x.c
section
variable {d:Int}{n m:Nat}{x y:N3}
theorem Ht.mono(h:Ht d n x)(l:n<=m):Ht d m x:=by
 obtain⟨a,b,e,f,h1,h2,h3,h4,r⟩:=h
 exact⟨a,b,e,f,h1.mono l,h2.mono l,h3.mono l,h4.mono l,r⟩
theorem sz0:Sz n 0:=Sz.of (by simp;exact Nat.pos_of_ne_zero (by simp))
theorem NZ(ox:Ok x)(h:Bd n x):Ht d n x:=by
 refine⟨x.a,x.b,x.c,0,h.a,h.b,h.c,sz0,?_,by grind,by grind⟩
 have:=mul_ne_zero ox.cn ox.cn
 grind
theorem K1(ox:Ok x)(hn:norm d x≠0)(h:Ht d n x):Ht d n (bV d x):=by
 obtain⟨a,b,e,f,h1,h2,h3,h4,hN,q1,q2⟩:=h
 have r:=(cb ox).bV (d:=d) ox hn
 have oc:=ox.cn
 refine⟨e,f,a,b,h3,h4,h1,h2,?_,?_,?_⟩
 ·intro z
  have:(x.a*x.a-d*x.b*x.b)*(e*e-d*f*f)=(a*a-d*b*b)*(x.c*x.c):=by
   have e1:(a*x.c)*(a*x.c)-d*((b*x.c)*(b*x.c))=(x.a*x.a-d*x.b*x.b)*(e*e-d*f*f):=by rw[<- q1,<- q2];grind
   grind
  rw[z,Int.zero_mul] at this
  rcases Int.mul_eq_zero.mp this with w|w
  ·exact hn w
  ·exact hN w
 ·have hc:=r.c
  generalize bV d x=y at *
  obtain⟨_,r1,r2⟩:=r
  have hk:(x.a*x.a-d*x.b*x.b)*x.c≠0:=mul_ne_zero hc oc
  apply eq_of_mul_eq_mul_right hk
  have s1:(y.a*a+d*y.b*b)*((x.a*x.a-d*x.b*x.b)*x.c)=(y.a*(x.a*x.a-d*x.b*x.b))*(a*x.c)+d*(y.b*(x.a*x.a-d*x.b*x.b))*(b*x.c):=by grind
  rw[s1,r1,r2,<- q1,<- q2]
  grind
 ·have hc:=r.c
  generalize bV d x=y at *
  obtain⟨_,r1,r2⟩:=r
  have hk:(x.a*x.a-d*x.b*x.b)*x.c≠0:=mul_ne_zero hc oc
  apply eq_of_mul_eq_mul_right hk
  have s1:(y.a*b+y.b*a)*((x.a*x.a-d*x.b*x.b)*x.c)=(y.a*(x.a*x.a-d*x.b*x.b))*(b*x.c)+(y.b*(x.a*x.a-d*x.b*x.b))*(a*x.c):=by grind
  rw[s1,r1,r2,<- q1,<- q2]
  grind
theorem R8(d e f e' f':Int):(e*e'+d*f*f')*(e*e'+d*f*f')-d*(e*f'+f*e')*(e*f'+f*e')=(e*e-d*f*f)*(e'*e'-d*f'*f'):=by grind
theorem szm(hd:Sz 5 d){p q r s:Int}(hp:Sz n p)(hq:Sz n q)(hr:Sz m r)(hs:Sz m s):Sz (n+m+6) (p*r+d*q*s):=by
 have e1:=(hp.mul hr).mono (m:=n+m+5) ∅
 have e2:=((hd.mul hq).mul hs).mono (m:=n+m+5) ∅
 exact e1.add e2
theorem szx{p q r s:Int}(hp:Sz n p)(hq:Sz n q)(hr:Sz m r)(hs:Sz m s):Sz (n+m+6) (p*s+q*r):=((hp.mul hs).add (hq.mul hr)).mono ∅
theorem R9(hd:Sz 5 d)(ox:Ok x)(oy:Ok y)(h:Ht d n x)(g:Ht d m y):Ht d (n+m+7) (plus x y):=by
 obtain⟨a,b,e,f,h1,h2,h3,h4,hN,p1,p2⟩:=h
 obtain⟨a',b',e',f',g1,g2,g3,g4,gN,q1,q2⟩:=g
 have hc:=C7 ox oy
 obtain⟨_,r1,r2⟩:=rq (a:=x.a*y.c+y.a*x.c) (b:=x.b*y.c+y.b*x.c) hc
 change (plus x y).a*(x.c*y.c)=_*(plus x y).c at r1
 change (plus x y).b*(x.c*y.c)=_*(plus x y).c at r2
 generalize plus x y=z at *
 refine⟨(a*e'+d*b*f')+(a'*e+d*b'*f),(a*f'+b*e')+(a'*f+b'*e),e*e'+d*f*f',e*f'+f*e',(szm hd h1 h2 g3 g4).add ((szm hd g1 g2 h3 h4).mono ∅),(szx h1 h2 g3 g4).add ((szx g1 g2 h3 h4).mono ∅),(szm hd h3 h4 g3 g4).mono ∅,(szx h3 h4 g3 g4).mono ∅,?_,?_,?_⟩
 ·rw[R8];exact mul_ne_zero hN gN
 ·apply eq_of_mul_eq_mul_right hc
  have s1:(z.a*(e*e'+d*f*f')+d*z.b*(e*f'+f*e'))*(x.c*y.c)=(z.a*(x.c*y.c))*(e*e'+d*f*f')+d*(z.b*(x.c*y.c))*(e*f'+f*e'):=by grind
  have s2:(a*e'+d*b*f'+(a'*e+d*b'*f))*z.c*(x.c*y.c)=((a*x.c)*e'*y.c+d*(b*x.c)*f'*y.c+((a'*y.c)*e*x.c+d*(b'*y.c)*f*x.c))*z.c:=by grind
  rw[s1,s2,r1,r2,<- p1,<- p2,<- q1,<- q2]
  grind
 ·apply eq_of_mul_eq_mul_right hc
  have s1:(z.a*(e*f'+f*e')+z.b*(e*e'+d*f*f'))*(x.c*y.c)=(z.a*(x.c*y.c))*(e*f'+f*e')+(z.b*(x.c*y.c))*(e*e'+d*f*f'):=by grind
  have s2:(a*f'+b*e'+(a'*f+b'*e))*z.c*(x.c*y.c)=((a*x.c)*f'*y.c+(b*x.c)*e'*y.c+((a'*y.c)*f*x.c+(b'*y.c)*e*x.c))*z.c:=by grind
  rw[s1,s2,r1,r2,<- p1,<- p2,<- q1,<- q2]
  grind
theorem Rh(hd:Sz 5 d)(ox:Ok x)(oy:Ok y)(h:Ht d n x)(g:Ht d m y):Ht d (n+m+6) (times d x y):=by
 obtain⟨a,b,e,f,h1,h2,h3,h4,hN,p1,p2⟩:=h
 obtain⟨a',b',e',f',g1,g2,g3,g4,gN,q1,q2⟩:=g
 have hc:=C7 ox oy
 obtain⟨_,r1,r2⟩:=rq (a:=x.a*y.a+d*x.b*y.b) (b:=x.a*y.b+x.b*y.a) hc
 change (times d x y).a*(x.c*y.c)=_*(times d x y).c at r1
 change (times d x y).b*(x.c*y.c)=_*(times d x y).c at r2
 generalize times d x y=z at *
 refine⟨a*a'+d*b*b',a*b'+b*a',e*e'+d*f*f',e*f'+f*e',szm hd h1 h2 g1 g2,szx h1 h2 g1 g2,szm hd h3 h4 g3 g4,szx h3 h4 g3 g4,?_,?_,?_⟩
 ·rw[R8];exact mul_ne_zero hN gN
 ·apply eq_of_mul_eq_mul_right hc
  have s1:(z.a*(e*e'+d*f*f')+d*z.b*(e*f'+f*e'))*(x.c*y.c)=(z.a*(x.c*y.c))*(e*e'+d*f*f')+d*(z.b*(x.c*y.c))*(e*f'+f*e'):=by grind
  have s2:(a*a'+d*b*b')*z.c*(x.c*y.c)=((a*x.c)*(a'*y.c)+d*(b*x.c)*(b'*y.c))*z.c:=by grind
  rw[s1,s2,r1,r2,<- p1,<- p2,<- q1,<- q2]
  grind
 ·apply eq_of_mul_eq_mul_right hc
  have s1:(z.a*(e*f'+f*e')+z.b*(e*e'+d*f*f'))*(x.c*y.c)=(z.a*(x.c*y.c))*(e*f'+f*e')+(z.b*(x.c*y.c))*(e*e'+d*f*f'):=by grind
  have s2:(a*b'+b*a')*z.c*(x.c*y.c)=((a*x.c)*(b'*y.c)+(b*x.c)*(a'*y.c))*z.c:=by grind
  rw[s1,s2,r1,r2,<- p1,<- p2,<- q1,<- q2]
  grind
theorem NR(hd:Sz 5 d)(ox:Ok x)(h:Ht d n x):Bd (2*n+6) x:=by
 obtain⟨a,b,e,f,h1,h2,h3,h4,hN,p1,p2⟩:=h
 have ex:x=NM.low (a*e-d*b*f) (b*e-a*f) (e*e-d*f*f):=by
  refine ox.U0 hN ?_ ?_
  ·have s1:(a*e-d*b*f)*x.c=(a*x.c)*e-d*(b*x.c)*f:=by grind
   rw[s1,<- p1,<- p2];grind
  ·have s1:(b*e-a*f)*x.c=(b*x.c)*e-(a*x.c)*f:=by grind
   rw[s1,<- p1,<- p2];grind
 have sub:∀{p q r s:Int},Sz n p->Sz n q->Sz n r->Sz n s->Sz (2*n+6) (p*r-d*q*s):=fun hp hq hr hs=>by
  have e1:=(hp.mul hr).mono (m:=2*n+5) ∅
  have e2:=((hd.mul hq).mul hs).mono (m:=2*n+5) ∅
  exact e1.sub e2
 rw[ex]
 exact o8 hN (sub h1 h2 h3 h4) (((h2.mul h3).sub ((h1.mul h4).mono ∅)).mono ∅) (sub h3 h4 h3 h4)
theorem EM(h:bu d)(ox:Ok x)(oy:Ok y)(hx:x=bL\/sg d x.a x.b=1)(hy:sg d y.a y.b=1):sg d (plus x y).a (plus x y).b=1:=by
 have e:sg d (plus x y).a (plus x y).b=sg d (x.a*y.c+y.a*x.c) (x.b*y.c+y.b*x.c):=Dw h (mul_pos ox.c oy.c)
 rw[e]
 rcases hx with rfl|hx
 ·have e1:bL.a*y.c+y.a*bL.c=y.a:=by show 0*y.c+y.a*1=y.a;omega
  have e2:bL.b*y.c+y.b*bL.c=y.b:=by show 0*y.c+y.b*1=y.b;omega
  rw[e1,e2];exact hy
 ·have p1:P d (y.c*x.a) (y.c*x.b):=(mH h).mp (by rw[wB h oy.c];exact hx)
  have p2:P d (x.c*y.a) (x.c*y.b):=(mH h).mp (by rw[wB h ox.c];exact hy)
  have:=(mH h).mpr (WL h p1 p2)
  have e1:x.a*y.c+y.a*x.c=y.c*x.a+x.c*y.a:=by grind
  have e2:x.b*y.c+y.b*x.c=y.c*x.b+x.c*y.b:=by grind
  rw[e1,e2];exact this
end
end NM
namespace NM
section
variable {d:Int}{x y z:N3}
noncomputable def gtL(d:Int)(k o:N3):Prop:=((Oi d o).a.natAbs:Int)*(Oi d k).c<((Oi d k).a.natAbs:Int)*(Oi d o).c
instance:Decidable (gtL d x y):=by unfold gtL;infer_instance
end
end NM
set_option maxHeartbeats 400000
namespace NM
end NM
namespace NM
end NM
set_option maxHeartbeats 4000000
namespace NM
section
variable {d:Int}{x y z u p q s t w h p' q' s' t' w' h':N3}
theorem X7(ox:Ok x)(oy:Ok y)(oz:Ok z):times d x (plus y z)=plus (times d x y) (times d x z):=
 ((cb ox).times ox (gM oy oz) ((cb oy).plus oy oz (cb oz))).eq (eR ox (gM oy oz)) (gM (eR ox oy) (eR ox oz)) (((cb ox).times ox oy (cb oy)).plus (eR ox oy) (eR ox oz) ((cb ox).times ox oz (cb oz))) (by grind) (by grind)
theorem Cj:Ok bL:=⟨⋯,⋯⟩
theorem Qb:Ok one:=⟨⋯,⋯⟩
theorem Xu(ox:Ok x):plus bL x=x:=
 ((cb Cj).plus Cj ox (cb ox)).eq (gM Cj ox) ox (cb ox) (by simp only[bL];grind) (by simp only[bL];grind)
theorem Yw(ox:Ok x):times d one x=x:=
 ((cb Qb).times Qb ox (cb ox)).eq (eR Qb ox) ox (cb ox) (by simp only[one];grind) (by simp only[one];grind)
theorem YT(ox:Ok x):times d x bL=bL:=
 ((cb ox).times ox Cj (cb Cj)).eq (eR ox Cj) Cj (cb Cj) (by simp only[bL];grind) (by simp only[bL];grind)
def hf(d:Int)(p q h:N3):N3:=plus (times d p h) (times d q (S0 h))
end
end NM
set_option maxHeartbeats 400000
namespace NM
section
variable {d:Int}{x y z k s o f u v:N3}
theorem UJ(ox:Ok x)(oy:Ok y):times d x y=times d y x:=
 Rep.eq (eR ox oy) (eR oy ox) (Rep.times ox oy (cb ox) (cb oy)) (Rep.times oy ox (cb oy) (cb ox)) (by grind) (by grind)
theorem Wz(ox:Ok x):times d x one=x:=by rw[UJ ox qf,Yw ox]
end
end NM
set_option maxHeartbeats 4000000
namespace L2.DL
open PySem PySem.Spec PyProof.Rows NM
theorem kZ{n m:Nat}{i j:Int}(h:Sz n i)(g:Sz m j)(l:n+m<=100000):IntMulOk i j:=by
 have b1:∀{k:Nat} {z:Int},Sz k z->Builtin.Int.intBits z<=k:=fun {k z} hz=>by
  unfold Builtin.Int.intBits
  split
  ·exact zero_le _
  ·rename_i q
   have hz':z.natAbs≠0:=by simp at q;omega
   have:=(Nat.log2_lt hz').mpr hz.lt
   omega
 have e1:=b1 h
 have e2:=b1 g
 unfold IntMulOk
 intro z
 simp only[and_eq_true] at z
 have z3:=z.2
 unfold Builtin.Int.intTooBig at z3
 simp only[decide_eq_true_eq] at z3
 have:(100000:Int)<=bitsLine:=by decide
 omega
theorem OF{n:Nat}{i j:Int}(h0:j≠0)(h:Sz n j)(l:n<=8900):CP i j:=by
 refine⟨h0,PyProof.noPylong_of_log2 ?_⟩
 have hz':j.natAbs≠0:=by omega
 have:=(Nat.log2_lt hz').mpr h.lt
 omega
theorem divC{i j:Int}(h0:j≠0)(h1:j.natAbs<1073741824):CP i j:=⟨h0,PyProof.noPylong_small h1⟩
theorem mulL{i j:Int}(h:i.natAbs<2 ^ 64):IntMulOk i j:=Sx.ok (.inl ∅)
theorem mulR{i j:Int}(h:j.natAbs<2 ^ 64):IntMulOk i j:=Sx.ok (.inr ∅)
def dN(x:N3):PyData:=.tuple [.int x.a,.int x.b,.int x.c]
def isWhole(d:PyData):Bool:=isT "int" d&&!isT "bool" d
def isNum:PyData->Bool
 |.tuple [.int a,.int b,.int c]=>decide (1<=c)&&(g3 a b c==1)
 |_=>false
noncomputable def ix:DSp:=fun ds U Q=>∃d,ds=[.v d]/\Q (.v (.bool (isWhole d))) U
noncomputable def wM:DSp:=fun ds U Q=>∃a b:Int,ds=[.v (.int a),.v (.int b)]/\Q (.v (.int (Int.gcd a b:Nat))) U
noncomputable def El:DSp:=fun ds U Q=>∃a b c:Int,ds=[.v (.int a),.v (.int b),.v (.int c)]/\Q (.v (.int (g3 a b c:Nat))) U
def Few:PyData->Prop
 |.tuple xs=>xs.length<=1000
 |_=>True
noncomputable def tR:DSp:=fun ds U Q=>∃d,ds=[.v d]/\Few d/\Q (.v (.bool (isNum d))) U
noncomputable def dE:DSp:=fun ds U Q=>∃a b c:Int,ds=[.v (.int a),.v (.int b),.v (.int c)]/\c≠0/\Sz 8800 c/\Q (.v (dN (low a b c))) U
noncomputable def uU:DSp:=fun ds U Q=>∃x:N3,ds=[.v (dN x)]/\Q (.v (dN (minus x))) U
noncomputable def sp2(f:N3->N3->N3):DSp:=fun ds U Q=>∃x y:N3,ds=[.v (dN x),.v (dN y)]/\Ok x/\Ok y/\Bd 4300 x/\Bd 4300 y/\Q (.v (dN (f x y))) U
noncomputable abbrev qd:DSp:=sp2 plus
noncomputable def pE:DSp:=fun ds U Q=>∃(d:Int) (x y:N3),ds=[.v (.int d),.v (dN x),.v (dN y)]/\Sz 5 d/\Ok x/\Ok y/\Bd 4300 x/\Bd 4300 y/\Q (.v (dN (times d x y))) U
noncomputable def dI:DSp:=fun ds U Q=>∃(d:Int) (x:N3),ds=[.v (.int d),.v (dN x)]/\Sz 5 d/\norm d x≠0/\Bd 4300 x/\Q (.v (dN (bV d x))) U
noncomputable def AW:DSp:=fun ds U Q=>∃d a b:Int,ds=[.v (.int d),.v (.int a),.v (.int b)]/\Sz 5 d/\Sz 9900 a/\Sz 9900 b/\Q (.v (.int (sg d a b))) U
noncomputable def vO:DSp:=fun ds U Q=>∃(d:Int) (x:N3),ds=[.v (.int d),.v (dN x)]/\bu d/\Bd 8900 x/\Q (.v (.int (sg d x.a x.b))) U
def dif(d:Int)(x y:N3):Int:=sg d (x.a*y.c-y.a*x.c) (x.b*y.c-y.b*x.c)
noncomputable def vd:DSp:=fun ds U Q=>∃(d:Int) (x y:N3),ds=[.v (.int d),.v (dN x),.v (dN y)]/\bu d/\Bd 4400 x/\Bd 4400 y/\Q (.v (.bool (decide (dif d x y=1)))) U
noncomputable def Bag(U:Mu)(a:Addr):Prop:=∃g m:Int,U a=some [.int g,.int m]/\0<=g/\0<=m/\m<2147483648
noncomputable def Step(a:Addr)(U Y:Mu):Prop:=Bag Y a/\∀b,b≠a->Y b=U b
noncomputable def NX:DSp:=fun ds U Q=>∃(ns:List Int) (k:Int),ds=[.s ns,.v (.int k)]/\0<=k/\k<=1000/\∀p Y,U p=none->Step p U Y->Q (.m p) Y
noncomputable def bX:DSp:=fun ds U Q=>∃(a:Addr) (n:Int),ds=[.m a,.v (.int n)]/\1<=n/\n<=1000000000/\Bag U a/\∀r Y,0<=r->r<n->Step a U Y->Q (.v (.int r)) Y
noncomputable def xk:DSp:=fun ds U Q=>∃a:Addr,ds=[.m a]/\Bag U a/\∀x Y,Ok x->Bd 20 x->Step a U Y->Q (.v (dN x)) Y
noncomputable def Dz:DSp:=fun ds U Q=>∃a:Addr,ds=[.m a]/\Bag U a/\∀d Y,bu d->Step a U Y->Q (.v (.int d)) Y
theorem Step.trans{a:Addr}{U ac ad:Mu}(h:Step a U ac)(g:Step a ac ad):Step a U ad:=⟨g.1,fun b n=>(g.2 b n).trans (h.2 b n)⟩
theorem Step.set{a:Addr}{U:Mu}{g m:Int}(h1:0<=g)(h2:0<=m)(h3:m<2147483648):Step a U (aR U a [.int g,.int m]):=⟨⟨g,m,bP,h1,h2,h3⟩,fun b n=>bR n⟩
def mkW(s:String):Lean.MacroM (Lean.TSyntax `tactic):=do let a<-(s.splitOn " ").toArray.mapM fun t=>if t.front=='↓' then `(Lean.Parser.Tactic.simpLemma|↓$(Lean.mkIdent (t.drop 1).toName):term) else `(Lean.Parser.Tactic.simpLemma|$(Lean.mkIdent t.toName):term);`(tactic|simp only[$a,*])
local macro_rules|`(tactic| walk_at "rd")=>mkW "↓x6 ↓yJ ↓A7 ↓wX ↓M6 ↓NA ↓Nx ↓ND ↓L9 ↓Mt ↓q_c ↓Mr ↓q_B ↓Vw ↓Rk ↓Ro ↓yj ↓Ut ↓MV ↓Rc ↓Np ↓XR ↓kf ↓gv ↓Cq ↓CG ↓L6 ↓CS ↓CQ ↓Ct ↓RM ↓RG ↓wo ↓Mm ↓MK ↓Ib ↓HF ↓Je ↓Ng ↓D1 ↓CH ↓Qh ↓RY ↓Q0 ↓Mn ↓MX ↓Na ↓Vq ↓DP ↓NF ↓Q1 ↓Ke ↓wa ↓Mj ↓NB ↓Jt ↓Rw ↓V7 ↓Mp ↓HD ↓Ol ↓Rx ↓eW ↓H0 ↓Dq ↓JM ↓ML ↓Fe ↓Rz ↓MQ ↓qF ↓CD ↓Nu ↓D0 ↓Jy ↓AY ↓Qo ↓Ry ↓NQ ↓wd ↓zT ↓HN ↓zQ ↓Eo ↓Fg ↓Ex Sk ↓II ↓rE wx xh CL Ck Es bind_none bind_some join_some getElem?_cons_zero getElem?_cons_succ aS dN Av FA HA Ll N8 List.map List.append List.replicate length_cons length_nil Nat.reduceAdd Nat.reduceSub nil_append cons_append set_cons_zero set_cons_succ map_some ↓reduceIte Bool.not_true Bool.not_false false_eq_true Bool.true_eq_false xor_false false_xor"
noncomputable def qR:DTS:=
 (bM (lN (EO "int" (ag 0)) (QD (EO "bool" (ag 0)))))
noncomputable def ki:DTS:=
 (aY (FJ (dB (dOp (cW true) (ag 1) (dC (.int 0)))) (LG 0 1 (ae (ag 1) (ae (CU (ag 0) (ag 1)) ai))))
 (bM (dCB AK (ae (ag 0) ai))))
noncomputable def kz:DTS:=
 (bM (aB wM (ae (aB wM (ae (ag 2) (ae (ag 0) ai))) (ae (ag 1) ai))))
noncomputable def qb:DTS:=
 (aY (LG 0 1 (ae (dCB AK (ae (ag 0) ai)) (ae (dCB AK (ae (ag 1) ai)) ai)))
 (aY (FJ (dB (dOp rGt (ag 1) (dC (.int 0)))) (LG 0 1 (ae (ag 1) (ae (CU (ag 0) (ag 1)) ai))))
 (bM (ag 0))))
section
theorem OI(x:Int){y:Int}(h:y≠0):(x.fmod y).natAbs<y.natAbs:=by
 have e:=Int.mul_fdiv_add_fmod x y
 have:=Int.fmod_def x y
 rcases Int.lt_or_gt_of_ne h with h|h
 ·have k:=Int.neg_fmod_neg (a:=x) (b:=y)
  have h1:=Int.fmod_nonneg_of_pos (-x) (show 0 < -y by omega)
  have h2:=Int.fmod_lt_of_pos (-x) (show 0 < -y by omega)
  omega
 ·have h1:=Int.fmod_nonneg_of_pos x h
  have h2:=Int.fmod_lt_of_pos x h
  omega
theorem Lk(x y:Int):Int.gcd y (x.fmod y)=Int.gcd x y:=by
 have e:=Int.mul_fdiv_add_fmod x y
 have e':x.fmod y=x+y*(-(x.fdiv y)):=by rw[Int.mul_neg];omega
 rw[e',Int.gcd_add_mul_left_right,Int.gcd_comm]
theorem CB{U Qd ds}(h:ix ds U Qd):qR ‹Qd› (aS [""] ds) U:=by
 obtain⟨d,rfl,q⟩:=h
 unfold qR
 walk_at "rd"
 unfold isWhole at q
 cases hb:isT "int" d<;>simp_all
theorem Ak{U Qd ds}(h:wM ds U Qd):ki ‹Qd› (aS ["",""] ds) U:=by
 obtain⟨a,b,rfl,q⟩:=h
 unfold ki
 walk_at "rd"
 refine⟨fun m ρ Y=>∃x y:Int,ρ=[some (.v (.int x)),some (.v (.int y))]/\m=y.natAbs/\Int.gcd x y=Int.gcd a b/\Y=U,⟨_,a,b,rfl,rfl,rfl,rfl⟩,?_⟩
 rintro m ρ Y ⟨x,y,rfl,rfl,hg,rfl⟩
 walk_at "rd"
 by_cases hy:y=0
 ·subst hy
  have e:Int.gcd x 0=x.natAbs:=Int.gcd_zero_right x
  rw[<- hg,e] at q
  simpa using q
 ·have z:(true ^^ decide (y=0))=true:=by simp[hy]
  rw[if_pos z]
  exact⟨hy,_,OI x hy,y,x.fmod y,rfl,rfl,(Lk x y).trans hg,trivial⟩
theorem E1{U Qd ds}(h:wM ds U Qd):qb ‹Qd› (aS ["",""] ds) U:=by
 obtain⟨a,b,rfl,q⟩:=h
 unfold qb
 walk_at "rd"
 refine⟨fun m ρ Y=>∃x y:Int,ρ=[some (.v (.int x)),some (.v (.int y))]/\m=y.natAbs/\0<=x/\0<=y/\Int.gcd x y=Int.gcd a b/\Y=U,⟨_,_,_,rfl,rfl,∅,∅,by simp[Int.gcd],rfl⟩,?_⟩
 rintro m ρ Y ⟨x,y,rfl,rfl,hx,hy,hg,rfl⟩
 walk_at "rd"
 by_cases h0:0<y
 ·rw[if_pos (by simpa using h0)]
  have hy':y≠0:=by omega
  exact⟨hy',_,OI x hy',y,x.fmod y,rfl,rfl,∅,Int.fmod_nonneg_of_pos x h0,(Lk x y).trans hg,trivial⟩
 ·rw[if_neg (by simpa using h0)]
  have e:y=0:=by omega
  subst e
  rw[Int.gcd_zero_right] at hg
  have:x=((Int.gcd a b:Nat):Int):=by omega
  rw[this]
  exact q
theorem zw{U Qd ds}(h:El ds U Qd):kz ‹Qd› (aS ["","",""] ds) U:=by
 obtain⟨a,b,c,rfl,q⟩:=h
 unfold kz
 walk_at "rd"
 rw[<- TR] at q
 exact⟨c,a,rfl,_,b,rfl,q⟩
end
noncomputable def Bv:DTS:=
 (aY (cZ (dB (dOp (cW false) (ag 2) (dC (.int 0)))) Bq cg)
 (aY (bJ (aB El (ae (ag 0) (ae (ag 1) (ae (ag 2) ai)))) (ar 3))
 (aY (cZ (dB (dOp rLt (ag 2) (dC (.int 0)))) (bJ (Cc (ag 3)) (ar 3)) cg)
 (bM (bj (ae (ER (ag 0) (ag 3)) (ae (ER (ag 1) (ag 3)) (ae (ER (ag 2) (ag 3)) ai))))))))
noncomputable def vI:DTS:=
 (aY (bJ (du (aB wM (ae (aB wM (ae (ag 0) (ae (ag 1) ai))) (ae (ag 2) ai))) (dOp aI (ff (ae (dC (.int 1)) (ae (Cc (dC (.int 1))) ai))) (dCB vk (ae (dOp rLt (ag 2) (dC (.int 0))) ai)))) (ar 3))
 (bM (bj (ae (ER (ag 0) (ag 3)) (ae (ER (ag 1) (ag 3)) (ae (ER (ag 2) (ag 3)) ai))))))
noncomputable def rJ:DTS:=
 (bM (bj (ae (vz (dC (.int 0)) (dOp aI (ag 0) (dC (.int 0)))) (ae (vz (dC (.int 0)) (dOp aI (ag 0) (dC (.int 1)))) (ae (dOp aI (ag 0) (dC (.int 2))) ai)))))
noncomputable def Ia:DTS:=
 (bM (aB dE (ae (jB (du (dOp aI (ag 0) (dC (.int 0))) (dOp aI (ag 1) (dC (.int 2)))) (du (dOp aI (ag 1) (dC (.int 0))) (dOp aI (ag 0) (dC (.int 2))))) (ae (jB (du (dOp aI (ag 0) (dC (.int 1))) (dOp aI (ag 1) (dC (.int 2)))) (du (dOp aI (ag 1) (dC (.int 1))) (dOp aI (ag 0) (dC (.int 2))))) (ae (du (dOp aI (ag 0) (dC (.int 2))) (dOp aI (ag 1) (dC (.int 2)))) ai)))))
noncomputable def zo:DTS:=
 (bM (aB dE (ae (jB (du (dOp aI (ag 0) (dC (.int 0))) (dOp aI (ag 1) (dC (.int 2)))) (du (dOp aI (ag 1) (dC (.int 0))) (dOp aI (ag 0) (dC (.int 2))))) (ae (jB (du (dOp aI (ag 0) (dC (.int 1))) (dOp aI (ag 1) (dC (.int 2)))) (du (dOp aI (ag 1) (dC (.int 1))) (dOp aI (ag 0) (dC (.int 2))))) (ae (du (dOp aI (ag 0) (dC (.int 2))) (dOp aI (ag 1) (dC (.int 2)))) ai)))))
noncomputable def Ep:DTS:=
 (bM (aB dE (ae (jB (du (dOp aI (ag 1) (dC (.int 0))) (dOp aI (ag 2) (dC (.int 0)))) (du (du (ag 0) (dOp aI (ag 1) (dC (.int 1)))) (dOp aI (ag 2) (dC (.int 1))))) (ae (jB (du (dOp aI (ag 1) (dC (.int 0))) (dOp aI (ag 2) (dC (.int 1)))) (du (dOp aI (ag 1) (dC (.int 1))) (dOp aI (ag 2) (dC (.int 0))))) (ae (du (dOp aI (ag 1) (dC (.int 2))) (dOp aI (ag 2) (dC (.int 2)))) ai)))))
noncomputable def xY:DTS:=
 (bM (aB dE (ae (jB (du (dOp aI (ag 1) (dC (.int 0))) (dOp aI (ag 2) (dC (.int 0)))) (du (du (ag 0) (dOp aI (ag 1) (dC (.int 1)))) (dOp aI (ag 2) (dC (.int 1))))) (ae (jB (du (dOp aI (ag 1) (dC (.int 0))) (dOp aI (ag 2) (dC (.int 1)))) (du (dOp aI (ag 1) (dC (.int 1))) (dOp aI (ag 2) (dC (.int 0))))) (ae (du (dOp aI (ag 1) (dC (.int 2))) (dOp aI (ag 2) (dC (.int 2)))) ai)))))
noncomputable def wm:DTS:=
 (aY (bJ (vz (du (dOp aI (ag 1) (dC (.int 0))) (dOp aI (ag 1) (dC (.int 0)))) (du (du (ag 0) (dOp aI (ag 1) (dC (.int 1)))) (dOp aI (ag 1) (dC (.int 1))))) (ar 2))
 (bM (aB dE (ae (du (dOp aI (ag 1) (dC (.int 2))) (dOp aI (ag 1) (dC (.int 0)))) (ae (du (Cc (dOp aI (ag 1) (dC (.int 2)))) (dOp aI (ag 1) (dC (.int 1)))) (ae (ag 2) ai))))))
noncomputable def nC:DTS:=
 (bM (aB dE (ae (du (dOp aI (ag 1) (dC (.int 0))) (dOp aI (ag 1) (dC (.int 2)))) (ae (vz (dC (.int 0)) (du (dOp aI (ag 1) (dC (.int 1))) (dOp aI (ag 1) (dC (.int 2))))) (ae (vz (du (dOp aI (ag 1) (dC (.int 0))) (dOp aI (ag 1) (dC (.int 0)))) (du (du (ag 0) (dOp aI (ag 1) (dC (.int 1)))) (dOp aI (ag 1) (dC (.int 1))))) ai)))))
section
variable {U:Mu}{Qd:DK}{ds:List D}
theorem YR(i j:Int):PyData.eqv (.int i) (.int j)=decide (i=j):=by simp[PyData.eqv];rfl
theorem gdv{a b c:Int}(h:Sz 8800 c)(hc:c≠0):Sz 8800 ((g3 a b c:Nat):Int):=by
 have h1:=(RH a b c).2.2
 have h2:=Int.natAbs_dvd_natAbs.mpr h1
 exact h.le (Nat.le_of_dvd ∅ h2)
theorem Pc(h:dE ds U Qd):Bv ‹Qd› (aS ["","","",""] ds) U:=by
 obtain⟨a,b,c,rfl,hc,hz,q⟩:=h
 unfold Bv
 walk_at "rd"
 rw[decide_eq_false hc]
 simp only[xor_false,false_eq_true,↓reduceIte]
 refine⟨a,b,c,rfl,?_⟩
 walk_at "rd"
 have hp:=ID (a:=a) (b:=b) hc
 have hg:=gdv (a:=a) (b:=b) hz hc
 unfold low NM.dv dN at q
 simp only at q
 by_cases hn:c<0
 ·rw[if_pos (by simpa using hn)]
  rw[if_pos hn] at q
  have o:∀i:Int,CP i (-((g3 a b c:Nat):Int)):=fun i=>OF ∅ hg.neg ⋯
  exact⟨o _,o _,o _,q⟩
 ·rw[if_neg (by simpa using hn)]
  rw[if_neg hn] at q
  have o:∀i:Int,CP i ((g3 a b c:Nat):Int):=fun i=>OF ∅ hg ⋯
  exact⟨o _,o _,o _,q⟩
theorem Kz(h:dE ds U Qd):vI ‹Qd› (aS ["","","",""] ds) U:=by
 obtain⟨a,b,c,rfl,hc,hz,q⟩:=h
 unfold vI
 walk_at "rd"
 refine⟨a,b,rfl,_,c,rfl,?_⟩
 walk_at "rd"
 have hp:=ID (a:=a) (b:=b) hc
 have hg:=gdv (a:=a) (b:=b) hz hc
 unfold low NM.dv dN at q
 simp only at q
 by_cases hn:c<0
 ·simp only[hn,decide_true,↓reduceIte,HA]
  rw[if_pos hn] at q
  have e:((Int.gcd (Int.gcd a b:Nat) c:Nat):Int) * -1 = -((g3 a b c:Nat):Int):=by unfold g3;omega
  walk_at "rd"
  rw[e]
  have o:∀i:Int,CP i (-((g3 a b c:Nat):Int)):=fun i=>OF ∅ hg.neg ⋯
  exact⟨mulR ⋯,o _,o _,o _,q⟩
 ·simp only[hn,decide_false,false_eq_true,↓reduceIte,FA]
  rw[if_neg hn] at q
  have e:((Int.gcd (Int.gcd a b:Nat) c:Nat):Int)*1=((g3 a b c:Nat):Int):=by unfold g3;omega
  walk_at "rd"
  rw[e]
  have o:∀i:Int,CP i ((g3 a b c:Nat):Int):=fun i=>OF ∅ hg ⋯
  exact⟨mulR ⋯,o _,o _,o _,q⟩
theorem GN(h:uU ds U Qd):rJ ‹Qd› (aS [""] ds) U:=by
 obtain⟨x,rfl,q⟩:=h
 unfold rJ
 walk_at "rd"
 simp only[Int.zero_sub]
 exact q
theorem Oc(h:qd ds U Qd):Ia ‹Qd› (aS ["",""] ds) U:=by
 obtain⟨x,y,rfl,ox,oy,bx,by',q⟩:=h
 unfold Ia
 walk_at "rd"
 have m:∀{i j:Int},Sz 4300 i->Sz 4300 j->IntMulOk i j:=fun h g=>kZ h g ⋯
 exact⟨m bx.a by'.c,m by'.a bx.c,m bx.b by'.c,m by'.b bx.c,m bx.c by'.c,_,_,_,rfl,C7 ox oy,(bx.c.mul by'.c).mono ⋯,q⟩
theorem Ie(h:qd ds U Qd):zo ‹Qd› (aS ["",""] ds) U:=Oc h
theorem Lz(h:pE ds U Qd):Ep ‹Qd› (aS ["","",""] ds) U:=by
 obtain⟨d,x,y,rfl,hd,ox,oy,bx,by',q⟩:=h
 unfold Ep
 walk_at "rd"
 have m:∀{i j:Int},Sz 4300 i->Sz 4300 j->IntMulOk i j:=fun h g=>kZ h g ⋯
 exact⟨m bx.a by'.a,kZ hd bx.b ⋯,kZ (hd.mul bx.b) by'.b ⋯,m bx.a by'.b,m bx.b by'.a,m bx.c by'.c,_,_,_,rfl,C7 ox oy,(bx.c.mul by'.c).mono ⋯,q⟩
theorem GZ(h:pE ds U Qd):xY ‹Qd› (aS ["","",""] ds) U:=Lz h
theorem Kw(h:dI ds U Qd):wm ‹Qd› (aS ["","",""] ds) U:=by
 obtain⟨d,x,rfl,hd,hn,bx,q⟩:=h
 unfold wm
 walk_at "rd"
 have m:∀{i j:Int},Sz 4300 i->Sz 4300 j->IntMulOk i j:=fun h g=>kZ h g ⋯
 exact⟨m bx.a bx.a,kZ hd bx.b ⋯,kZ (hd.mul bx.b) bx.b ⋯,m bx.c bx.a,m bx.c.neg bx.b,_,_,_,rfl,hn,(Ja hd bx).mono ⋯,q⟩
theorem B0(h:dI ds U Qd):nC ‹Qd› (aS ["",""] ds) U:=by
 obtain⟨d,x,rfl,hd,hn,bx,q⟩:=h
 unfold nC
 walk_at "rd"
 have m:∀{i j:Int},Sz 4300 i->Sz 4300 j->IntMulOk i j:=fun h g=>kZ h g ⋯
 refine⟨m bx.a bx.c,m bx.b bx.c,m bx.a bx.a,kZ hd bx.b ⋯,kZ (hd.mul bx.b) bx.b ⋯,_,_,_,rfl,hn,(Ja hd bx).mono ⋯,?_⟩
 have e1:x.a*x.c=x.c*x.a:=Int.mul_comm ..
 have e2:0-x.b*x.c = -x.c*x.b:=by grind
 rw[e1,e2]
 exact q
theorem YS(a b c a' b' c':Int):PyData.eqv (.tuple [.int a,.int b,.int c]) (.tuple [.int a',.int b',.int c'])=decide (a=a'/\b=b'/\c=c'):=by
 simp[PyData.eqv,PyData.eqvAll]
 rfl
end
noncomputable def mD:DTS:=
 (aY (cZ (lL (dB (dOp (cW false) (ag 1) (dC (.int 0)))) (dB (dOp (cW false) (ag 2) (dC (.int 0))))) (bM (dC (.int 0))) cg)
 (aY (cZ (lL (dB (dOp rGe (ag 1) (dC (.int 0)))) (dB (dOp rGe (ag 2) (dC (.int 0))))) (bM (dC (.int 1))) cg)
 (aY (cZ (lL (dB (dOp rLe (ag 1) (dC (.int 0)))) (dB (dOp rLe (ag 2) (dC (.int 0))))) (bM (Cc (dC (.int 1)))) cg)
 (aY (bJ (dIf (dB (dOp rGt (du (ag 1) (ag 1)) (du (du (ag 0) (ag 2)) (ag 2)))) (ag 1) (ag 2)) (ar 3))
 (bM (dIf (dB (dOp rGt (ag 3) (dC (.int 0)))) (dC (.int 1)) (Cc (dC (.int 1)))))))))
noncomputable def yo:DTS:=
 (bM (aB AW (ae (ag 0) (ae (dOp aI (ag 1) (dC (.int 0))) (ae (dOp aI (ag 1) (dC (.int 1))) ai)))))
noncomputable def vY:DTS:=
 (aY (bJ (vz (du (dOp aI (ag 1) (dC (.int 0))) (dOp aI (ag 2) (dC (.int 2)))) (du (dOp aI (ag 2) (dC (.int 0))) (dOp aI (ag 1) (dC (.int 2))))) (ar 3))
 (aY (bJ (vz (du (dOp aI (ag 1) (dC (.int 1))) (dOp aI (ag 2) (dC (.int 2)))) (du (dOp aI (ag 2) (dC (.int 1))) (dOp aI (ag 1) (dC (.int 2))))) (ar 4))
 (bM (dOp (cW false) (aB AW (ae (ag 0) (ae (ag 3) (ae (ag 4) ai)))) (dC (.int 1))))))
noncomputable def vc:DTS:=
 (aY (LG 2 3 (ae (du (dOp aI (ag 1) (dC (.int 0))) (dOp aI (ag 1) (dC (.int 0)))) (ae (du (du (ag 0) (dOp aI (ag 1) (dC (.int 1)))) (dOp aI (ag 1) (dC (.int 1)))) ai)))
 (aY (bJ (ff (ae (vz (dCB vk (ae (dOp rGt (dOp aI (ag 1) (dC (.int 0))) (dC (.int 0))) ai)) (dCB vk (ae (dOp rLt (dOp aI (ag 1) (dC (.int 0))) (dC (.int 0))) ai))) (ae (vz (dCB vk (ae (dOp rGt (dOp aI (ag 1) (dC (.int 1))) (dC (.int 0))) ai)) (dCB vk (ae (dOp rLt (dOp aI (ag 1) (dC (.int 1))) (dC (.int 0))) ai))) ai))) (ar 4))
 (aY (cZ (dB (dOp rGe (du (dOp aI (ag 4) (dC (.int 0))) (dOp aI (ag 4) (dC (.int 1)))) (dC (.int 0)))) (bM (dIf (dB (dOp (cW true) (dOp aI (ag 4) (dC (.int 0))) (dC (.int 0)))) (dOp aI (ag 4) (dC (.int 0))) (dOp aI (ag 4) (dC (.int 1))))) cg)
 (bM (dIf (dB (dOp rGt (ag 2) (ag 3))) (dOp aI (ag 4) (dC (.int 0))) (dOp aI (ag 4) (dC (.int 1))))))))
section
variable {U:Mu}{Qd:DK}{ds:List D}
theorem Bn(h:AW ds U Qd):mD ‹Qd› (aS ["","","",""] ds) U:=by
 obtain⟨d,a,b,rfl,hd,ha,hb,q⟩:=h
 unfold mD
 walk_at "rd"
 have m1:MulOk a a:=kZ ha ha ⋯
 have m2:MulOk d b:=kZ hd hb ⋯
 have m3:MulOk (d*b) b:=kZ (hd.mul hb) hb ⋯
 unfold sg at q
 by_cases h1:a=0
 ·by_cases h2:b=0
  ·subst h1 h2;simpa using q
  ·subst h1
   rcases Int.lt_or_gt_of_ne h2 with h3|h3
   ·have e:¬ (0<=b):=by omega
    have e':b<=0:=by omega
    simp only[h2,e,e',and_false,true_and,if_true,if_false,decide_true,decide_false,Int.le_refl,↓reduceIte,false_eq_true] at q ⊢
    exact q
   ·have e:(0<=b):=by omega
    simp only[h2,e,and_false,true_and,if_true,if_false,decide_true,decide_false,Int.le_refl,↓reduceIte,false_eq_true] at q ⊢
    exact q
 ·by_cases h3:0<=a<;>by_cases h4:0<=b<;>by_cases h5:a<=0<;>by_cases h6:b<=0<;>by_cases h7:d*b*b<a*a<;>(try (exfalso;omega))<;>
   simp only[h1,h3,h4,h5,h6,h7,and_false,false_and,and_true,true_and,if_true,if_false,decide_true,decide_false,↓reduceIte,false_eq_true,and_self,m1,m2,m3,gt_iff_lt] at q ⊢<;>(try exact q)
  all_goals
   first
   |(by_cases h8:0<a<;>simp only[h8,if_true,if_false,decide_true,decide_false,↓reduceIte,false_eq_true] at q ⊢<;>exact q)
   |(by_cases h8:0<b<;>simp only[h8,if_true,if_false,decide_true,decide_false,↓reduceIte,false_eq_true] at q ⊢<;>exact q)
theorem Mw(h:vO ds U Qd):yo ‹Qd› (aS ["",""] ds) U:=by
 obtain⟨d,x,rfl,hd,bx,q⟩:=h
 unfold yo
 walk_at "rd"
 exact⟨d,x.a,x.b,rfl,Ba hd.1 hd.2.1,bx.a.mono ⋯,bx.b.mono ⋯,q⟩
theorem LS(h:vd ds U Qd):vY ‹Qd› (aS ["","","","",""] ds) U:=by
 obtain⟨d,x,y,rfl,hd,bx,by',q⟩:=h
 unfold vY
 walk_at "rd"
 have m:∀{i j:Int},Sz 4400 i->Sz 4400 j->IntMulOk i j:=fun h g=>kZ h g ⋯
 refine⟨m bx.a by'.c,m by'.a bx.c,m bx.b by'.c,m by'.b bx.c,d,_,_,rfl,Ba hd.1 hd.2.1,((bx.a.mul by'.c).sub (by'.a.mul bx.c)).mono ⋯,((bx.b.mul by'.c).sub (by'.b.mul bx.c)).mono ⋯,?_⟩
 walk_at "rd"
 exact q
theorem Vl{d a b sa sb:Int}(ha:(a<0/\sa = -1)\/(a=0/\sa=0)\/(0<a/\sa=1))(hb:(b<0/\sb = -1)\/(b=0/\sb=0)\/(0<b/\sb=1)) :
  sg d a b=if 0<=sa*sb then (if sa≠0 then sa else sb) else if d*b*b<a*a then sa else sb:=by
 unfold sg
 by_cases h7:d*b*b<a*a<;>rcases ha with ⟨h1,rfl⟩|⟨h1,rfl⟩|⟨h1,rfl⟩<;>rcases hb with ⟨h2,rfl⟩|⟨h2,rfl⟩|⟨h2,rfl⟩<;>simp only[h7,↓reduceIte]<;>(repeat' split)<;>omega
theorem Jx(h:vO ds U Qd):vc ‹Qd› (aS ["","","","",""] ds) U:=by
 obtain⟨d,x,rfl,hd,bx,q⟩:=h
 unfold vc
 walk_at "rd"
 have s5:=Ba hd.1 hd.2.1
 refine⟨kZ bx.a bx.a ⋯,kZ s5 bx.b ⋯,kZ (s5.mul bx.b) bx.b ⋯,?_⟩
 have sd:∀u:Int,(u<0/\((if decide (0<u)=true then 1 else 0)-if decide (u<0)=true then 1 else 0:Int) = -1)\/(u=0/\((if decide (0<u)=true then 1 else 0)-if decide (u<0)=true then 1 else 0:Int)=0)\/(0<u/\((if decide (0<u)=true then 1 else 0)-if decide (u<0)=true then 1 else 0:Int)=1):=fun u=>by
  simp only[decide_eq_true_eq]
  split<;>split<;>omega
 have ha:=sd x.a
 have hb:=sd x.b
 generalize ((if decide (0<x.a)=true then 1 else 0)-if decide (x.a<0)=true then 1 else 0:Int)=sa at ha ⊢
 generalize ((if decide (0<x.b)=true then 1 else 0)-if decide (x.b<0)=true then 1 else 0:Int)=sb at hb ⊢
 rw[Vl ha hb] at q
 refine⟨mulL ∅,?_⟩
 by_cases c1:0<=sa*sb<;>by_cases c2:sa=0<;>by_cases c3:d*x.b*x.b<x.a*x.a<;>simp only[c1,c2,c3,decide_true,decide_false,↓reduceIte,false_eq_true,xor_false,Bool.xor_true,Bool.not_true,ne_eq,not_true_eq_false,not_false_eq_true,Int.zero_mul,Int.le_refl] at q ⊢<;>exact q
end
noncomputable def w5:DTS:=
 (aY (bJ (dC (.int 0)) (ar 2))
 (aY (cZ (dB (dOp rLt (ag 1) (dCB cI (ae (ag 0) ai)))) (bJ (dOp aI (ag 0) (ag 1)) (ar 2)) cg)
 (aY (bJ (dC (.int 0)) (ar 3))
 (aY (cZ (dB (dOp rGe (dCB AK (ae (ag 2) ai)) (M5 (dC (.int 10)) (dC (.int 18))))) (bJ (dCB AK (ae (ag 2) ai)) (ar 3)) cg)
 (aY (bJ (ff (ae (dC (.int 2147483647)) (ae (dC (.int 2147483629)) (ae (dC (.int 2147483587)) (ae (dC (.int 2147483579)) (ae (dC (.int 2147483563)) (ae (dC (.int 2147483549)) (ae (dC (.int 2147483543)) (ae (dC (.int 2147483497)) ai))))))))) (ar 4))
 (aY (bJ (jB (jB (jB (du (CU (ag 2) (dC (.int 2147483647))) (dC (.int 69623))) (du (du (dC (.int 104729)) (ag 1)) (ag 1))) (du (dC (.int 7919)) (ag 1))) (dC (.int 12345))) (ar 5))
 (bM (G8 (ae (ag 3) (ae (CU (ag 5) (dOp aI (ag 4) (CU (ag 1) (dC (.int 8))))) ai))))))))))
noncomputable def u7:DTS:=
 (aY (cZ (dB (dOp rGt (dOp aI (ag 0) (dC (.int 0))) (dC (.int 0)))) (aY (bJ (CU (dOp aI (ag 0) (dC (.int 0))) (ag 1)) (ar 2))
 (aY (bJ (ER (dOp aI (ag 0) (dC (.int 0))) (ag 1)) (Ox (ag 0) (dC (.int 0))))
 (bM (ag 2)))) cg)
 (aY (bJ (CU (jB (du (dOp aI (ag 0) (dC (.int 1))) (dC (.int 48271))) (dC (.int 2531011))) (dC (.int 2147483647))) (Ox (ag 0) (dC (.int 1))))
 (bM (CU (ER (CU (M5 (dOp aI (ag 0) (dC (.int 1))) (dC (.int 3))) (dC (.int 2147483629))) (dC (.int 64))) (ag 1)))))
section
variable {U:Mu}{Qd:DK}{ds:List D}
theorem Dx{α:Type}{xs:List α}{i:Int}(h0:0<=i)(h:i<(xs.length:Nat)):∃d,atI xs i=some d/\d∈xs:=by
 have hj:i.toNat<xs.length:=by omega
 have e:=zu (xs:=xs) (j:=i.toNat) (v:=xs[i.toNat]) (by simp[hj])
 rw[show ((i.toNat:Nat):Int)=i by omega] at e
 exact⟨_,e,List.getElem_mem _⟩
theorem tj(x:Int){y:Int}(h:0<y):0<=x.fmod y/\x.fmod y<y:=⟨Int.fmod_nonneg_of_pos x h,Int.fmod_lt_of_pos x h⟩
theorem SW{x y:Int}(hx:0<=x)(hy:0<y):0<=x.fdiv y:=by rw[Int.fdiv_eq_ediv_of_nonneg _ ∅];exact Int.ediv_nonneg hx ∅
def xl:List PyData:=[.int 2147483647,.int 2147483629,.int 2147483587,.int 2147483579,.int 2147483563,.int 2147483549,.int 2147483543,.int 2147483497]
theorem La(h:NX ds U Qd):w5 ‹Qd› (aS ["","","","","",""] ds) U:=by
 obtain⟨ns,k,rfl,h0,h1,q⟩:=h
 unfold w5
 have hp:∃pr:Int,atI xl (k.fmod 8)=some (.int pr)/\0<pr/\pr<2147483648:=by
  obtain⟨h2,h3⟩:=tj k (show (0:Int)<8 by decide)
  obtain⟨p,e,hm⟩:=Dx (xs:=xl) h2 (by exact h3)
  simp only[xl,mem_cons,not_mem_nil,or_false] at hm
  rcases hm with rfl|rfl|rfl|rfl|rfl|rfl|rfl|rfl<;>exact⟨_,e,⋯,⋯⟩
 obtain⟨pr,hpe,hp0,hp1⟩:=hp
 unfold xl at hpe
 walk_at "rd"
 rw[hpe]
 walk_at "rd"
 have c1:Wb 10 18:=⟨⋯,⋯,⋯⟩
 have z1:(2147483647:Int)≠0:=by decide
 have z2:(8:Int)≠0:=by decide
 have m1:∀i:Int,MulOk i 69623:=fun i=>mulR ⋯
 have m2:MulOk 104729 k:=mulL ⋯
 have m3:MulOk (104729*k) k:=mulR ∅
 have m4:MulOk 7919 k:=mulL ⋯
 have z3:pr≠0:=by omega
 have fin:∀G x:Int,0<=G->∀p,U p=none->Qd (.m p) (aR U p [.int G,.int (x.fmod pr)]):=fun G x hG p hp=>by
  obtain⟨h2,h3⟩:=tj x hp0
  exact q p _ hp (Step.set hG h2 ∅)
 by_cases hk:k<(ns.length:Nat)
 ·rw[if_pos (by simpa using hk)]
  obtain⟨c,hc,_⟩:=Dx h0 hk
  rw[hc]
  walk_at "rd"
  refine⟨c1,?_⟩
  split
  ·exact⟨z1,m1 _,m2,m3,m4,z2,z3,fin _ _ ∅⟩
  ·exact⟨z1,m1 _,m2,m3,m4,z2,z3,fin _ _ ∅⟩
 ·rw[if_neg (by simpa using hk)]
  refine⟨c1,?_⟩
  split
  ·exact⟨z1,m1 _,m2,m3,m4,z2,z3,fin _ _ ∅⟩
  ·exact⟨z1,m1 _,m2,m3,m4,z2,z3,fin _ _ ∅⟩
theorem Ip(h:bX ds U Qd):u7 ‹Qd› (aS ["","",""] ds) U:=by
 obtain⟨a,n,rfl,h0,h1,⟨g,m,hb,hg,hm,hm'⟩,q⟩:=h
 unfold u7
 walk_at "rd"
 rw[hb]
 walk_at "rd"
 rw[hb]
 walk_at "rd"
 have n0:n≠0:=by omega
 have i0:ixN 2 0=some 0:=by rfl
 have i1:ixN 2 1=some 1:=by rfl
 by_cases hg0:0<g
 ·rw[if_pos (by simpa using hg0)]
  simp only[hb]
  walk_at "rd"
  obtain⟨r0,r1⟩:=tj g (show 0<n by omega)
  refine⟨n0,?_⟩
  simp only[hb]
  walk_at "rd"
  refine⟨divC n0 ∅,?_⟩
  simp only[hb,length_cons,length_nil,Nat.reduceAdd,i0,set_cons_zero]
  exact q _ _ r0 r1 (Step.set (SW hg ∅) hm hm')
 ·rw[if_neg (by simpa using hg0)]
  simp only[hb,i1,bP]
  walk_at "rd"
  obtain⟨s0,s1⟩:=tj (m*48271+2531011) (show (0:Int)<2147483647 by decide)
  generalize (m*48271+2531011).fmod 2147483647=w at s0 s1 ⊢
  obtain⟨r0,r1⟩:=tj ((((w ^ Int.toNat 3).fmod 2147483629).fdiv 64)) (show 0<n by omega)
  refine⟨mulL ∅,⋯,?_⟩
  refine⟨⟨⋯,⋯,∅⟩,(by show (2147483629:Int)≠0;decide),divC ⋯ ⋯,n0,?_⟩
  exact q _ _ r0 r1 (Step.set hg s0 ∅)
end
noncomputable def uY:DTS:=
 (aY (cZ (qL (iQ (dB (EO "tuple" (ag 0)))) (dB (dOp (cW true) (dCB cI (ae (ag 0) ai)) (dC (.int 3))))) (bM (dC (.bool false))) cg)
 (aY (bJ (ag 0) (iP 3 (bS (ar 1) (bS (ar 2) (bS (ar 3) i7)))))
 (aY (cZ (qL (iQ (dB (aB ix (ae (ag 1) ai)))) (qL (iQ (dB (aB ix (ae (ag 2) ai)))) (iQ (dB (aB ix (ae (ag 3) ai)))))) (bM (dC (.bool false))) cg)
 (bM (lN (dOp rGe (ag 3) (dC (.int 1))) (dOp (cW false) (aB El (ae (ag 1) (ae (ag 2) (ae (ag 3) ai)))) (dC (.int 1))))))))
section
variable {U:Mu}{Qd:DK}{ds:List D}
def NS(i:Int):Bool:=decide (2<=i)&&decide (i<=30)&&!(decide (i=4) || decide (i=9) || decide (i=16) || decide (i=25))
theorem gS(d:PyData):(∃i,d = .int i/\isWhole d=true)\/((∀i,d≠.int i)/\isWhole d=false):=by
 cases d<;>first|exact .inl ⟨_,rfl,rfl⟩|exact .inr ⟨fun _ z=>(by cases z),rfl⟩
theorem ua(d:PyData):(∃xs,d = .tuple xs/\isT "tuple" d=true)\/((∀xs,d≠.tuple xs)/\isT "tuple" d=false):=by
 cases d<;>first|exact .inl ⟨_,rfl,rfl⟩|exact .inr ⟨fun _ z=>(by cases z),rfl⟩
theorem Hg{d:PyData}(h:∀xs,d≠.tuple xs):isNum d=false:=by cases d<;>first|rfl|exact absurd rfl (h _)
theorem G4{xs:List PyData}(h:xs.length≠3):isNum (.tuple xs)=false:=by
 unfold isNum
 split
 ·rename_i e;cases e;exact absurd rfl h
 ·rfl
theorem three{α:Type}{xs:List α}(h:xs.length=3):∃a b c,xs=[a,b,c]:=by
 match xs,h with
 |[a,b,c],_=>exact⟨a,b,c,rfl⟩
theorem IY(h:tR ds U Qd):uY ‹Qd› (aS ["","","",""] ds) U:=by
 obtain⟨d,rfl,_,q⟩:=h
 unfold uY
 walk_at "rd"
 rcases ua d with ⟨xs,rfl,e⟩|⟨hn,e⟩
 ·rw[e]
  walk_at "rd"
  by_cases hl:xs.length=3
  ·obtain⟨a,b,c,rfl⟩:=three hl
   have e3:decide ((([a,b,c].length:Nat):Int)=3)=true:=rfl
   have e3':[a,b,c].length=3:=rfl
   simp only[e3,Bool.xor_self,false_eq_true,↓reduceIte]
   refine⟨rfl,?_⟩
   walk_at "rd"
   refine⟨a,rfl,?_⟩
   rcases gS a with ⟨i,rfl,e⟩|⟨hn,e⟩
   ·rw[e]
    walk_at "rd"
    refine⟨b,rfl,?_⟩
    rcases gS b with ⟨j,rfl,e⟩|⟨hn,e⟩
    ·rw[e]
     walk_at "rd"
     refine⟨c,rfl,?_⟩
     rcases gS c with ⟨k,rfl,e⟩|⟨hn,e⟩
     ·rw[e]
      walk_at "rd"
      have q':Qd (.v (.bool (decide (1<=k)&&(g3 i j k==1)))) U:=q
      by_cases hk:1<=k
      ·rw[if_pos (by simpa using hk)]
       refine⟨i,j,k,rfl,?_⟩
       walk_at "rd"
       have ee:decide (((g3 i j k:Nat):Int)=1)=(decide (1<=k)&&(g3 i j k==1)):=by
        rw[decide_eq_true hk,Bool.true_and,Bool.eq_iff_iff];simp;omega
       rw[ee]
       exact q'
      ·rw[if_neg (by simpa using hk)]
       rw[decide_eq_false hk] at q'
       exact q'
     ·rw[e]
      walk_at "rd"
      have:isNum (.tuple [.int i,.int j,c])=false:=by cases c<;>first|rfl|exact absurd rfl (hn _)
      rw[this] at q
      exact q
    ·rw[e]
     walk_at "rd"
     have:isNum (.tuple [.int i,b,c])=false:=by cases b<;>first|rfl|exact absurd rfl (hn _)
     rw[this] at q
     exact q
   ·rw[e]
    walk_at "rd"
    have:isNum (.tuple [a,b,c])=false:=by cases a<;>first|rfl|exact absurd rfl (hn _)
    rw[this] at q
    exact q
  ·rw[G4 hl] at q
   have:decide (((xs.length:Nat):Int)=3)=false:=by simp;omega
   rw[this]
   simp only[xor_false,↓reduceIte]
   exact q
 ·rw[e]
  rw[Hg hn] at q
  walk_at "rd"
  exact q
end
noncomputable def kG:DTS:=
 (aY (cZ (qL (iQ (dB (EO "tuple" (ag 0)))) (qL (dB (dOp (cW true) (dCB cI (ae (ag 0) ai)) (dC (.int 3)))) (iQ (dB (dCB CF (ae (KR [none] (D8 (ag 0)) (ar 0) jb (aB ix (ae (ag 0) ai))) ai)))))) (bM (dC (.bool false))) cg)
 (bM (lN (dOp rGt (dOp aI (ag 0) (dC (.int 2))) (dC (.int 0))) (dOp (cW false) (aB wM (ae (aB wM (ae (dOp aI (ag 0) (dC (.int 0))) (ae (dOp aI (ag 0) (dC (.int 1))) ai))) (ae (dOp aI (ag 0) (dC (.int 2))) ai))) (dC (.int 1))))))
noncomputable def qA:DTS:=
 (aY (bJ (dOp aI (ff (ae (dC (.int 4)) (ae (dC (.int 10)) (ae (dC (.int 100)) (ae (dC (.int 1000000)) ai))))) (aB bX (ae (ag 0) (ae (dC (.int 4)) ai)))) (ar 1))
 (aY (LG 2 3 (ae (vz (aB bX (ae (ag 0) (ae (ag 1) ai))) (ER (ag 1) (dC (.int 2)))) (ae (vz (aB bX (ae (ag 0) (ae (ag 1) ai))) (ER (ag 1) (dC (.int 2)))) ai)))
 (aY (bJ (jB (dC (.int 1)) (aB bX (ae (ag 0) (ae (vz (ag 1) (dC (.int 1))) ai)))) (ar 4))
 (aY (bJ (aB bX (ae (ag 0) (ae (dC (.int 8)) ai))) (ar 5))
 (bM (aB dE (ae (dOp aI (ff (ae (ag 2) (ae (ag 2) (ae (ag 2) (ae (ag 2) (ae (ag 2) (ae (ag 2) (ae (ag 2) (ae (dC (.int 0)) ai))))))))) (ag 5)) (ae (dOp aI (ff (ae (ag 3) (ae (ag 3) (ae (ag 3) (ae (ag 3) (ae (ag 3) (ae (dC (.int 0)) (ae (dC (.int 0)) (ae (ag 3) ai))))))))) (ag 5)) (ae (dOp aI (ff (ae (ag 4) (ae (ag 4) (ae (dC (.int 1)) (ae (ag 4) (ae (dC (.int 1)) (ae (ag 4) (ae (dC (.int 1)) (ae (ag 4) ai))))))))) (ag 5)) ai)))))))))
section
variable {U:Mu}{Qd:DK}{ds:List D}
theorem zW(h:tR ds U Qd):kG ‹Qd› (aS [""] ds) U:=by
 obtain⟨d,rfl,few,q⟩:=h
 unfold kG
 walk_at "rd"
 rcases ua d with ⟨xs,rfl,e⟩|⟨hn,e⟩
 ·rw[e]
  walk_at "rd"
  by_cases hl:xs.length=3
  ·obtain⟨a,b,c,rfl⟩:=three hl
   have e3:decide ((([a,b,c].length:Nat):Int)=3)=true:=rfl
   simp only[e3,Bool.xor_self,false_eq_true,↓reduceIte]
   refine⟨by simp,fun x=>some (.bool (isWhole x)),fun x hx Y hs=>⟨trivial,x,rfl,rfl,rfl⟩,?_⟩
   rw[IH (fun x=>PyData.bool (isWhole x)),w9]
   simp only[map_cons,map_nil,List.all_cons,List.all_nil,id,Bool.and_true]
   rcases gS a with ⟨i,rfl,ea⟩|⟨hn,ea⟩
   ·rcases gS b with ⟨j,rfl,e1⟩|⟨hn,e1⟩
    ·rcases gS c with ⟨k,rfl,e2⟩|⟨hn,e2⟩
     ·rw[ea,e1,e2]
      simp only[Bool.and_self]
      walk_at "rd"
      have q':Qd (.v (.bool (decide (1<=k)&&(g3 i j k==1)))) U:=q
      by_cases hk:1<=k
      ·rw[if_pos (by simp;omega)]
       refine⟨i,j,rfl,_,k,rfl,?_⟩
       walk_at "rd"
       have ee:decide (((Int.gcd (Int.gcd i j:Nat) k:Nat):Int)=1)=(decide (1<=k)&&(g3 i j k==1)):=by
        unfold g3
        rw[decide_eq_true hk,Bool.true_and,Bool.eq_iff_iff];simp;omega
       rw[ee]
       exact q'
      ·rw[if_neg (by simp;omega)]
       rw[decide_eq_false hk] at q'
       exact q'
     ·rw[ea,e1,e2]
      simp only[Bool.and_false]
      walk_at "rd"
      have:isNum (.tuple [.int i,.int j,c])=false:=by cases c<;>first|rfl|exact absurd rfl (hn _)
      rw[this] at q
      exact q
    ·rw[ea,e1]
     simp only[Bool.and_false,Bool.false_and]
     walk_at "rd"
     have:isNum (.tuple [.int i,b,c])=false:=by cases b<;>first|rfl|exact absurd rfl (hn _)
     rw[this] at q
     exact q
   ·rw[ea]
    simp only[Bool.and_false,Bool.false_and]
    walk_at "rd"
    have:isNum (.tuple [a,b,c])=false:=by cases a<;>first|rfl|exact absurd rfl (hn _)
    rw[this] at q
    exact q
  ·rw[G4 hl] at q
   have:decide (((xs.length:Nat):Int)=3)=false:=by simp;omega
   rw[this]
   simp only[xor_false,↓reduceIte]
   exact q
 ·rw[e]
  rw[Hg hn] at q
  walk_at "rd"
  exact q
theorem pick{P:PyData->Prop}{xs:List PyData}{i:Int}(h0:0<=i)(h1:i<(xs.length:Nat))(h:∀x∈xs,P x):∃d,atI xs i=some d/\P d:=let ⟨d,e,m⟩:=Dx h0 h1;⟨d,e,h d m⟩
theorem Step.refl{a:Addr}(h:Bag U a):Step a U U:=⟨h,fun _ _=>rfl⟩
theorem JZ{i:Int}(h1:-1048576<i)(h2:i<1048576):Sz 20 i:=Sz.of (by show i.natAbs<1048576;omega)
theorem Fv(h:xk ds U Qd):qA ‹Qd› (aS ["","","","","",""] ds) U:=by
 obtain⟨a,rfl,hb,q⟩:=h
 unfold qA
 walk_at "rd"
 refine⟨a,4,rfl,⋯,⋯,hb,fun r0 ac h0 h1 s1=>?_⟩
 walk_at "rd"
 obtain⟨w,e,i,rfl,w0,w1⟩:=pick (P:=fun d=>∃i:Int,d = .int i/\4<=i/\i<=1000000) (xs:=[PyData.int 4,PyData.int 10,PyData.int 100,PyData.int 1000000]) h0 (by exact h1) (by
  intro x hx
  simp only[mem_cons,not_mem_nil,or_false] at hx
  rcases hx with rfl|rfl|rfl|rfl<;>exact⟨_,rfl,⋯,⋯⟩)
 rw[e]
 walk_at "rd"
 refine⟨a,i,rfl,∅,∅,s1.1,fun r1 ad h2 h3 s2=>?_⟩
 walk_at "rd"
 refine⟨divC ⋯ ⋯,a,i,rfl,∅,∅,s2.1,fun r2 ap h4 h5 s3=>?_⟩
 walk_at "rd"
 refine⟨divC ⋯ ⋯,a,i-1,rfl,∅,∅,s3.1,fun r3 ce h6 h7 s4=>?_⟩
 walk_at "rd"
 refine⟨a,8,rfl,⋯,⋯,s4.1,fun r4 nb h8 h9 s5=>?_⟩
 walk_at "rd"
 have ef:i.fdiv 2=i / 2:=Int.fdiv_eq_ediv_of_nonneg _ ∅
 rw[ef]
 have za:Sz 20 (r1-i / 2):=JZ ∅ ∅
 have zb:Sz 20 (r2-i / 2):=JZ ∅ ∅
 have zc:Sz 20 (1+r3):=JZ ∅ ∅
 have z0:Sz 20 0:=JZ ∅ ∅
 have z1:Sz 20 1:=JZ ∅ ∅
 obtain⟨d1,e1,i1,rfl,b1⟩:=pick (P:=fun d=>∃i:Int,d = .int i/\Sz 20 i) (xs:=[PyData.int (r1-i / 2),PyData.int (r1-i / 2),PyData.int (r1-i / 2),PyData.int (r1-i / 2),PyData.int (r1-i / 2),PyData.int (r1-i / 2),PyData.int (r1-i / 2),PyData.int 0]) h8 (by exact h9) (by
  intro x hx
  simp only[mem_cons,not_mem_nil,or_false] at hx
  rcases hx with rfl|rfl|rfl|rfl|rfl|rfl|rfl|rfl<;>exact⟨_,rfl,by assumption⟩)
 rw[e1]
 walk_at "rd"
 obtain⟨d2,e2,i2,rfl,b2⟩:=pick (P:=fun d=>∃i:Int,d = .int i/\Sz 20 i) (xs:=[PyData.int (r2-i / 2),PyData.int (r2-i / 2),PyData.int (r2-i / 2),PyData.int (r2-i / 2),PyData.int (r2-i / 2),PyData.int 0,PyData.int 0,PyData.int (r2-i / 2)]) h8 (by exact h9) (by
  intro x hx
  simp only[mem_cons,not_mem_nil,or_false] at hx
  rcases hx with rfl|rfl|rfl|rfl|rfl|rfl|rfl|rfl<;>exact⟨_,rfl,by assumption⟩)
 rw[e2]
 walk_at "rd"
 obtain⟨d3,e3,i3,rfl,b3,p3⟩:=pick (P:=fun d=>∃i:Int,d = .int i/\Sz 20 i/\0<i) (xs:=[PyData.int (1+r3),PyData.int (1+r3),PyData.int 1,PyData.int (1+r3),PyData.int 1,PyData.int (1+r3),PyData.int 1,PyData.int (1+r3)]) h8 (by exact h9) (by
  intro x hx
  simp only[mem_cons,not_mem_nil,or_false] at hx
  rcases hx with rfl|rfl|rfl|rfl|rfl|rfl|rfl|rfl<;>exact⟨_,rfl,by assumption,∅⟩)
 rw[e3]
 walk_at "rd"
 have n3:i3≠0:=by omega
 exact⟨i1,i2,i3,rfl,n3,b3.mono ⋯,q _ _ (mW _ _ n3) (o8 n3 b1 b2 b3) (s1.trans (s2.trans (s3.trans (s4.trans s5))))⟩
end
noncomputable def uW:DTS:=
 (aY (cZ (dB (dOp (cW false) (aB bX (ae (ag 0) (ae (dC (.int 2)) ai))) (dC (.int 0)))) (bM (dOp aI (ff (ae (dC (.int 2)) (ae (dC (.int 3)) (ae (dC (.int 5)) ai)))) (aB bX (ae (ag 0) (ae (dC (.int 3)) ai))))) cg)
 (aY (bJ (dJ [none] (Ma (ae (dC (.int 2)) (ae (dC (.int 31)) ai))) (ar 0) (dB (dOp (OZ true) (ag 0) (ff (ae (dC (.int 4)) (ae (dC (.int 9)) (ae (dC (.int 16)) (ae (dC (.int 25)) ai))))))) (ag 0)) (ar 1))
 (bM (dOp aI (ag 1) (aB bX (ae (ag 0) (ae (dC (.int 25)) ai)))))))
noncomputable def wY:DTS:=
 (aY (bJ (ff (ae (dC .none) (ae (dC (.bool true)) (ae (dC (.bool false)) (ae (dC (.str "1")) (ae (dC (.str "")) (ae (Cc (dC (.int 1))) (ae (dC (.int 0)) (ae (dC (.int 1)) (ae (M5 (dC (.int 10)) (dC (.int 59))) (ae (bj ai) (ae (ff ai) (ae (ff (ae (dC (.int 0)) ai)) (ae (bj (ae (dC (.int 0)) (ae (dC (.int 0)) ai))) (ae (bj (ae (dC (.int 1)) (ae (dC (.int 0)) (ae (dC (.int 0)) ai)))) (ae (bj (ae (dC (.int 2)) (ae (dC (.int 0)) (ae (dC (.int 2)) ai)))) (ae (bj (ae (dC (.int 1)) (ae (dC (.bool true)) (ae (dC (.int 1)) ai)))) (ae (bj (ae (dC (.int 1)) (ae (dC (.int 1)) (ae (Cc (dC (.int 1))) ai)))) (ae (ff (ae (dC (.int 1)) (ae (dC (.int 0)) (ae (dC (.int 1)) ai)))) (ae (bj (ae (dC (.int 1)) (ae (dC (.int 0)) ai))) (ae (dC (.str "a")) ai))))))))))))))))))))) (ar 1))
 (bM (dOp aI (ag 1) (aB bX (ae (ag 0) (ae (dC (.int 20)) ai))))))
noncomputable def rT:DTS:=
 (aY (bJ (aB xk (ae (ag 0) ai)) (ar 2))
 (aY (bJ (aB vO (ae (ag 1) (ae (ag 2) ai))) (ar 3))
 (aY (cZ (dB (dOp (cW false) (ag 3) (dC (.int 0)))) (bM (bj (ae (jB (dC (.int 1)) (aB bX (ae (ag 0) (ae (dC (.int 5)) ai)))) (ae (dC (.int 0)) (ae (dC (.int 1)) ai))))) cg)
 (bM (dIf (dB (dOp rGt (ag 3) (dC (.int 0)))) (ag 2) (aB uU (ae (ag 2) ai)))))))
section
variable {U:Mu}{Qd:DK}{ds:List D}
theorem Sa{lo:Int}{n:Nat}{x:PyData}(h:x∈wG lo n):∃i:Int,x = .int i/\lo<=i/\i<lo+n:=by
 unfold wG at h
 obtain⟨k,hk,rfl⟩:=List.mem_map.mp h
 have:=List.mem_range.mp hk
 exact⟨_,rfl,∅,∅⟩
def K3:PyData->Option PyData
 |.int i=>if NS i then some (.int i) else none
 |_=>none
def Jz:List PyData:=[2,3,5,6,7,8,10,11,12,13,14,15,17,18,19,20,21,22,23,24,26,27,28,29,30].map PyData.int
theorem in4(i:Int):(List.any [PyData.int 4,PyData.int 9,PyData.int 16,PyData.int 25] fun b=>PyData.eqv b (.int i))=(decide (i=4) || decide (i=9) || decide (i=16) || decide (i=25)):=by
 have ev:∀j:Int,PyData.eqv (.int j) (.int i)=decide (i=j):=fun j=>by rw[YR];simp[eq_comm]
 simp only[any_cons,any_nil,ev,Bool.or_false,Bool.or_assoc]
theorem JN(h:Dz ds U Qd):uW ‹Qd› (aS ["",""] ds) U:=by
 obtain⟨a,rfl,hb,q⟩:=h
 unfold uW
 walk_at "rd"
 refine⟨a,2,rfl,⋯,⋯,hb,fun r0 ac h0 h1 s1=>?_⟩
 walk_at "rd"
 by_cases hr:r0=0
 ·rw[if_pos (by simpa using hr)]
  refine⟨a,3,rfl,⋯,⋯,s1.1,fun r1 ad h2 h3 s2=>?_⟩
  walk_at "rd"
  obtain⟨w,e,i,rfl,w0⟩:=pick (P:=fun d=>∃i:Int,d = .int i/\bu i) (xs:=[PyData.int 2,PyData.int 3,PyData.int 5]) h2 (by exact h3) (by
   intro x hx
   simp only[mem_cons,not_mem_nil,or_false] at hx
   rcases hx with rfl|rfl|rfl<;>exact⟨_,rfl,by unfold bu;omega⟩)
  rw[e]
  exact q _ _ w0 (s1.trans s2)
 ·rw[if_neg (by simpa using hr)]
  refine⟨⟨⋯,⋯,⋯,⋯⟩,⋯,fun p hp=>⟨fun i acc Y=>acc=((wG 2 29).take i).filterMap K3/\Y=aR ac p acc,⟨rfl,rfl⟩,?_,?_⟩⟩
  ·rintro i x acc Y hx hpa ⟨e0,e1⟩
   obtain⟨k,rfl,i0,i1⟩:=Sa (mem_of_getElem? hx)
   refine⟨trivial,rfl,rfl,by show 0<=60;decide,?_⟩
   rw[in4]
   have i1':k<31:=by simpa using i1
   have e:K3 (.int k)=if NS k then some (.int k) else none:=rfl
   have e2:NS k = !(decide (k=4) || decide (k=9) || decide (k=16) || decide (k=25)):=by
    unfold NS
    rw[decide_eq_true i0,decide_eq_true (show k<=30 by omega)]
    rfl
   have ft:((wG 2 29).take (i+1)).filterMap K3=((wG 2 29).take i).filterMap K3++(K3 (.int k)).toList:=VM hx
   rw[e,e2] at ft
   cases hh:(decide (k=4) || decide (k=9) || decide (k=16) || decide (k=25))
   ·rw[hh] at ft
    simp only[true_xor,Bool.not_false,↓reduceIte] at ft ⊢
    refine⟨hpa,?_,?_⟩
    ·rw[ft,e0];rfl
    ·rw[e1,pL]
   ·rw[hh] at ft
    simp only[true_xor,Bool.not_true,↓reduceIte,false_eq_true] at ft ⊢
    refine⟨hpa,?_,e1⟩
    rw[ft,e0];simp
  rintro acc Y ⟨e0,e1⟩ _
  have ed:j4 Y p=ac:=by rw[e1];exact xo hp
  rw[ed]
  have e0':acc=Jz:=by rw[e0];rfl
  rw[e0']
  refine⟨a,25,rfl,⋯,⋯,s1.1,fun r1 ad h2 h3 s2=>?_⟩
  walk_at "rd"
  obtain⟨w,e,i,rfl,w0⟩:=pick (P:=fun d=>∃i:Int,d = .int i/\bu i) (xs:=Jz) h2 (by exact h3) (by
   intro x hx
   unfold Jz at hx
   obtain⟨k,hk,rfl⟩:=List.mem_map.mp hx
   refine⟨_,rfl,?_⟩
   simp only[mem_cons,not_mem_nil,or_false] at hk
   unfold bu
   omega)
  rw[e]
  exact q _ _ w0 (s1.trans s2)
def rD:List PyData:=[.none,.bool true,.bool false,.str "1",.str "",.int (-1),.int 0,.int 1,.int (10 ^ Int.toNat 59),.tuple [],.list [],.list [.int 0],.tuple [.int 0,.int 0],.tuple [.int 1,.int 0,.int 0],.tuple [.int 2,.int 0,.int 2],.tuple [.int 1,.bool true,.int 1],.tuple [.int 1,.int 1,.int (-1)],.list [.int 1,.int 0,.int 1],.tuple [.int 1,.int 0],.str "a"]
noncomputable def Hu:DSp:=fun ds U Q=>∃a:Addr,ds=[.m a]/\Bag U a/\∀d Y,d∈rD->Step a U Y->Q (.v d) Y
theorem Lr(h:Hu ds U Qd):wY ‹Qd› (aS ["",""] ds) U:=by
 obtain⟨a,rfl,hb,q⟩:=h
 unfold wY
 walk_at "rd"
 refine⟨⟨⋯,⋯,⋯⟩,a,20,rfl,⋯,⋯,hb,fun r0 ac h0 h1 s1=>?_⟩
 walk_at "rd"
 obtain⟨d,e,m⟩:=Dx (xs:=rD) h0 (by exact h1)
 unfold rD at e
 rw[e]
 exact q d _ m s1
noncomputable def sW:DSp:=fun ds U Q=>∃(a:Addr) (d:Int),ds=[.m a,.v (.int d)]/\bu d/\Bag U a/\∀x Y,Ok x->Bd 20 x->sg d x.a x.b=1->Step a U Y->Q (.v (dN x)) Y
theorem Gu(h:sW ds U Qd):rT ‹Qd› (aS ["","","",""] ds) U:=by
 obtain⟨a,d,rfl,hd,hb,q⟩:=h
 unfold rT
 walk_at "rd"
 refine⟨a,rfl,hb,fun x ac ox bx s1=>?_⟩
 walk_at "rd"
 refine⟨d,x,rfl,hd,bx.mono ⋯,?_⟩
 walk_at "rd"
 have t:=A2 d x.a x.b
 by_cases h0:sg d x.a x.b=0
 ·rw[if_pos (by simpa using h0)]
  refine⟨a,5,rfl,⋯,⋯,s1.1,fun r ad r0 r1 s2=>?_⟩
  walk_at "rd"
  have ok:Ok ⟨1+r,0,1⟩:=⟨by show (0:Int)<1;decide,by unfold g3;simp⟩
  refine q ⟨1+r,0,1⟩ ad ok ⟨JZ (by show -1048576<1+r;omega) (by show 1+r<1048576;omega),JZ (by show -1048576<(0:Int);decide) (by show (0:Int)<1048576;decide),JZ (by show -1048576<(1:Int);decide) (by show (1:Int)<1048576;decide)⟩ ?_ (s1.trans s2)
  show sg d (1+r) 0=1
  unfold sg
  rw[if_neg ∅,if_pos ∅]
 ·rw[if_neg (by simpa using h0)]
  by_cases h1:0<sg d x.a x.b
  ·rw[if_pos (by simpa using h1)]
   exact q x ac ox bx ∅ s1
  ·rw[if_neg (by simpa using h1)]
   refine⟨x,rfl,?_⟩
   refine q (minus x) ac (vC ox) (AB bx) ?_ s1
   show sg d (-x.a) (-x.b)=1
   rw[Cb hd]
   omega
end
section
variable {U:Mu}{Q:DK}{ds:List D}
noncomputable def Fl:DSp:=fun ds U Q=>∃ns:List Int,ds=[.s ns]/\ns.length<=63/\∀Y,Q (.v (.bool true)) Y
theorem Cz(h:ix ds U Q):ds.length=1:=by obtain⟨_,rfl,_⟩:=h;rfl
theorem Hx(h:wM ds U Q):ds.length=2:=by obtain⟨_,_,rfl,_⟩:=h;rfl
theorem NL(h:El ds U Q):ds.length=3:=by obtain⟨_,_,_,rfl,_⟩:=h;rfl
theorem Fw(h:tR ds U Q):ds.length=1:=by obtain⟨_,rfl,_⟩:=h;rfl
theorem Ao(h:dE ds U Q):ds.length=3:=by obtain⟨_,_,_,rfl,_⟩:=h;rfl
theorem LZ(h:uU ds U Q):ds.length=1:=by obtain⟨_,rfl,_⟩:=h;rfl
theorem E9(h:qd ds U Q):ds.length=2:=by obtain⟨_,_,rfl,_⟩:=h;rfl
theorem Cw(h:pE ds U Q):ds.length=3:=by obtain⟨_,_,_,rfl,_⟩:=h;rfl
theorem vF(h:dI ds U Q):ds.length=2:=by obtain⟨_,_,rfl,_⟩:=h;rfl
theorem Kx(h:AW ds U Q):ds.length=3:=by obtain⟨_,_,_,rfl,_⟩:=h;rfl
theorem E4(h:vO ds U Q):ds.length=2:=by obtain⟨_,_,rfl,_⟩:=h;rfl
theorem KQ(h:vd ds U Q):ds.length=3:=by obtain⟨_,_,_,rfl,_⟩:=h;rfl
theorem OL(h:NX ds U Q):ds.length=2:=by obtain⟨_,_,rfl,_⟩:=h;rfl
theorem Ms(h:bX ds U Q):ds.length=2:=by obtain⟨_,_,rfl,_⟩:=h;rfl
theorem G0(h:xk ds U Q):ds.length=1:=by obtain⟨_,rfl,_⟩:=h;rfl
theorem LV(h:Dz ds U Q):ds.length=1:=by obtain⟨_,rfl,_⟩:=h;rfl
theorem Pa(h:Hu ds U Q):ds.length=1:=by obtain⟨_,rfl,_⟩:=h;rfl
theorem IS(h:sW ds U Q):ds.length=2:=by obtain⟨_,_,rfl,_⟩:=h;rfl
theorem Pp(h:Fl ds U Q):ds.length=1:=by obtain⟨_,rfl,_⟩:=h;rfl
end
noncomputable def rZ:DTS:=qR
theorem Bg{U Qd ds}(h:ix ds U Qd):rZ ‹Qd› (aS [""] ds) U:=CB h
structure UW(K:PySem.W.Frag)(mg:Str->Option Value)(x:Str)(g:Addr)(a b c:Int):Prop where
 m:mg x=some (.ref g)
 l:∃(od:Option Addr) (n:Nat) (sl:Array (Option Value)) (t u v:Tok),K.lookup g=some ⟨.type "tuple",od,.seq #[.int a t,.int b u,.int c v] n,sl⟩
theorem AM{X:Cx}{x:Str}{g:Addr}{a b c:Int}{pos:Pos}(hg:Gl X x)(h:UW X.K X.mg x g a b c)(hd:(x==("__debug__":Str))=false:=by decide):DE X (.Name x pos) (dC (.tuple [.int a,.int b,.int c])):=by
 obtain⟨od,n,sl,t,u,v,e⟩:=h.l
 refine uA (u:=.ref g) hg h.m rfl (fun U H _=>Rp.tuple (xs:=[.int a,.int b,.int c]) (.inr ⟨_,_,_,e,rfl,rfl,(by show 3<=sizeLine;decide),.cons ⟨t,rfl⟩ (.cons ⟨u,rfl⟩ (.cons ⟨v,rfl⟩ .nil))⟩) (.cons (.int a) (.cons (.int b) (.cons (.int c) .nil)))) hd
theorem Pk{K:PySem.W.Frag}{H:Hp}{a:Addr}{ns:List Int}(hl:ns.length<=63)(hT:Gm K H)(hS:SqL K H a (ns.map V.int)):spD K Fl [.ref a] H (fun v _=>v = .bl true) fun _ _ _=>False:=by
 refine⟨[.s ns],fun _=>none,fun d _=>d = .v (.bool true),⟨fun a ds h=>(by cases h),hT⟩,.cons ⟨a,rfl,hS,rfl⟩ .nil,⟨ns,rfl,hl,fun _=>rfl⟩,fun d u Y H' _ _ r q=>?_⟩
 subst q
 cases r
 rfl
section
variable {U:Mu}{Q:DK}{ds:List D}{x y:N3}
theorem Uh(a b c:Int):PyData.tuple [.int a,.int b,.int c]=dN ⟨a,b,c⟩:=rfl
theorem Rb:aI (.v (dN x)) (.v (.int 0)) U Q=Q (.v (.int x.a)) U:=by unfold dN;rw[Ib]
theorem RW:aI (.v (dN x)) (.v (.int 1)) U Q=Q (.v (.int x.b)) U:=by unfold dN;rw[HF]
theorem Qv:aI (.v (dN x)) (.v (.int 2)) U Q=Q (.v (.int x.c)) U:=by unfold dN;rw[Je]
theorem eqN:PyData.eqv (dN x) (dN y)=decide (x=y):=by
 unfold dN
 rw[YS,Bool.eq_iff_iff]
 simp only[decide_eq_true_eq]
 exact⟨fun h=>N3.ext' h.1 h.2.1 h.2.2,fun h=>by subst h;exact⟨rfl,rfl,rfl⟩⟩
theorem Uc{neg:Bool}:cW neg (.v (dN x)) (.v (dN y)) U Q=Q (.v (.bool (neg ^^ decide (x=y)))) U:=by
 rw[RK,eqN]
 exact propext ⟨fun h=>h.2.2,fun h=>⟨rfl,rfl,h⟩⟩
theorem Ku(h:Ok x):isNum (dN x)=true:=by
 have:=h.c
 show (decide (1<=x.c)&&(g3 x.a x.b x.c==1))=true
 rw[h.g]
 simp;omega
theorem G3:Few (dN x):=by simp[dN,Few]
theorem HE{d a b c:Int}(h:bu d)(hc:0<c):sg d (low a b c).a (low a b c).b=sg d a b:=by
 obtain⟨k,hk,hs,p1,p2,p3,_⟩:=qB a b (show c≠0 by omega)
 have e:=wB (a:=(low a b c).a) (b:=(low a b c).b) h (hs.mpr hc)
 rw[<- p1,<- p2] at e
 exact e.symm
theorem L0{d:Int}(h:bu d)(ox:Ok x)(oy:Ok y):sg d (times d x y).a (times d x y).b=sg d x.a x.b*sg d y.a y.b:=by
 unfold times
 rw[HE h (mul_pos ox.c oy.c),Mx h]
theorem SJ{d:Int}(h:bu d)(ox:Ok x)(oy:Ok y):sg d (less x y).a (less x y).b=dif d x y:=by
 unfold less dif
 rw[HE h (mul_pos ox.c oy.c)]
theorem Ra{d:Int}:dif d x x=0:=by unfold dif;rw[Int.sub_self,Int.sub_self];exact jf.mpr ⟨rfl,rfl⟩
theorem Qr{lo:Int}{n i:Nat}{x:PyData}(h:(wG lo n)[i]? = some x):x = .int (lo+i)/\i<n:=by
 unfold wG at h
 rw[getElem?_map] at h
 by_cases hi:i<n
 ·rw[List.getElem?_range hi] at h
  cases h
  exact⟨rfl,hi⟩
 ·rw[List.getElem?_eq_none (by simpa using hi)] at h
  cases h
theorem ET{lo:Int}{n:Nat}:(wG lo n).length=n:=by unfold wG;simp
end
theorem Er{α:Type}{P:α->Prop}:∀x∈([]:List α),P x:=fun _ h=>nomatch h
theorem bE{α:Type}{P:α->Prop}{a:α}{l:List α}(h:P a)(t:∀x∈l,P x):∀x∈a::l,P x:=List.forall_mem_cons.mpr ⟨h,t⟩
structure Tg{α:Sort u}(x:α):Type where
def hd{α:Sort u}(x:α)(_:Tg x):α:=x
section
variable {ρ:Rho}{U:Mu}{Q:DK}{QT:Bool->Mu->Prop}{Dd:wV}{ta tb tc:DTE}{t u:DTT}{tA:DTA}{s1 s2:DTS}{d:D}{A B:Prop}{p:Tg A}{q:Tg B}
theorem Yo{w:Tg Q}:hd Q w d U=Q d U:=propext Iff.rfl
theorem l_T{i:Decidable True}:(if True then hd A p else hd B q)=A:=if_pos trivial
theorem l_F{i:Decidable False}:(if False then hd A p else hd B q)=B:=if_neg id
theorem l_t{i:Decidable (true=true)}:(if true=true then hd A p else hd B q)=A:=if_pos rfl
theorem l_f{i:Decidable (false=true)}:(if false=true then hd A p else hd B q)=B:=if_neg Bool.false_ne_true
theorem tH{c:Prop}{i:Decidable c}(h:c):(if c then hd A p else hd B q)=A:=if_pos h
theorem rB{c:Prop}{i:Decidable c}(h:¬ c):(if c then hd A p else hd B q)=B:=if_neg h
theorem Uk{c:Prop}{i:Decidable c}(h:c->A)(g:¬ c->B):if c then hd A p else hd B q:=by split<;>rename_i z<;>first|exact h z|exact g z
theorem YY{i j:Int}{k:Decidable True}:(if True then i else j)=i:=if_pos trivial
theorem X4{i j:Int}{k:Decidable False}:(if False then i else j)=j:=if_neg id
theorem Yj{r}:dOp r ta tb ρ U Q=ta ρ U fun x ac=>tb ρ ac fun y ad=>r x y ad (hd Q .mk):=propext Iff.rfl
theorem Xl{g:DTG}:bJ ta g Dd ρ U=ta ρ U (hd (fun d ac=>g d ρ ac Dd.nx) .mk):=propext Iff.rfl
theorem Yg{rd}:dCB rd tA ρ U Q=tA ρ U fun ds ac=>rd ds ac (hd Q .mk):=propext Iff.rfl
theorem V4{dsp:DSp}:aB dsp tA ρ U Q=tA ρ U fun ds ac=>dsp ds ac (hd Q .mk):=propext Iff.rfl
theorem Wk:lL t u ρ U QT=t ρ U fun c ac=>if c=true then hd (u ρ ac QT) .mk else hd (QT false ac) .mk:=propext Iff.rfl
theorem Xx:qL t u ρ U QT=t ρ U fun c ac=>if c=true then hd (QT true ac) .mk else hd (u ρ ac QT) .mk:=propext Iff.rfl
theorem UK:lN ta tb ρ U Q=ta ρ U fun x ac=>match x with|.v (.bool c)=>if c=true then hd (tb ρ ac Q) .mk else hd (Q (.v (.bool false)) ac) .mk|_=>False:=propext Iff.rfl
theorem YG:dIf t ta tb ρ U Q=t ρ U fun c ac=>if c=true then hd (ta ρ ac Q) .mk else hd (tb ρ ac Q) .mk:=propext Iff.rfl
theorem Xc:cZ t s1 s2 Dd ρ U=t ρ U fun b ac=>if b=true then hd (s1 Dd ρ ac) .mk else hd (s2 Dd ρ ac) .mk:=propext Iff.rfl
theorem Ti{r r'}:yW r r' ta tb tc ρ U Q=ta ρ U fun x ac=>tb ρ ac fun y ad=>r x y ad fun z ap=>match z with
 |.v (.bool k)=>if k=true then hd (tc ρ ap fun w ce=>r' y w ce Q) .mk else hd (Q (.v (.bool false)) ap) .mk
 |_=>False:=propext Iff.rfl
end
theorem zN{a b c f g h k l m n n11}{o:Rho}:ag 11 (a::b::c::f::g::h::k::l::m::n::n11::some d::o) U Q=Q d U:=propext Iff.rfl
theorem N5{a b c f g h k l m n n11 n12}{o:Rho}:ag 12 (a::b::c::f::g::h::k::l::m::n::n11::n12::some d::o) U Q=Q d U:=propext Iff.rfl
theorem Of{a b c f g h k l m n n11 n12 n13}{o:Rho}:ag 13 (a::b::c::f::g::h::k::l::m::n::n11::n12::n13::some d::o) U Q=Q d U:=propext Iff.rfl
theorem Oa{a b c f g h k l m n n11 n12 n13 n14}{o:Rho}:ag 14 (a::b::c::f::g::h::k::l::m::n::n11::n12::n13::n14::some d::o) U Q=Q d U:=propext Iff.rfl
theorem T6{to:DTE}{ρ:Rho}{U:Mu}{Q:DK}:VR to ρ U Q=to ρ U fun x ac=>match x with
 |.m l=>(match ac l with
  |some xs=>∃d,xs[xs.length-1]? = some d/\Q (.v d) (aR ac l xs.dropLast)
  |none=>False)
 |_=>False:=propext Iff.rfl
theorem N6{to te:DTE}{ρ:Rho}{U:Mu}{Q:DK}:Bj to te ρ U Q=to ρ U fun x ac=>match x with
 |.m l=>te ρ ac fun y ad=>(match y,ad l with
  |.v (.int i),some xs=>(0<=i/\i<1000)/\∃d,xs[i.toNat]? = some d/\Q (.v d) (aR ad l (xs.eraseIdx i.toNat))
  |_,_=>False)
 |_=>False:=propext Iff.rfl
theorem RN{to:DTE}{ρ:Rho}{U:Mu}{Q:Bool->Mu->Prop}:PX to ρ U Q=to ρ U fun x ac=>match x with
 |.m l=>(match ac l with|some xs=>Q (!xs.isEmpty) ac|none=>False)
 |_=>False:=propext Iff.rfl
theorem Xf{i:Nat}{te:DTE}{Dd:wV}{ρ:Rho}{U:Mu}:VD i te Dd ρ U = ∃a:Int,ρ[i]? = some (some (.v (.int a)))/\te ρ U fun y ac=>match y with
 |.v (.int b)=>Dd.nx (ρ.set i (some (.v (.int (a+b))))) ac
 |_=>False:=propext Iff.rfl
theorem Ud{ys:List PyData}{U:Mu}{Q:DK}:KC [.v (.list ys)] U Q=(match dz ys with|some ns=>0<ns.length/\∀M∈ns,(∀a∈ns,M<=a)->Q (.v (.int M)) U|none=>False):=propext Iff.rfl
theorem T3{ys:List PyData}{U:Mu}{Q:DK}:LP [.v (.list ys)] U Q=(match dz ys with|some ns=>0<ns.length/\∀M∈ns,(∀a∈ns,a<=M)->Q (.v (.int M)) U|none=>False):=propext Iff.rfl
def bF(s:Str):PyData->Bool
 |.str x=>decide (x=s)
 |_=>false
theorem SH(x:PyData)(s:Str):PyData.eqv x (.str s)=bF s x:=by
 cases x<;>first|rfl|(simp[PyData.eqv,bF];done)|(simp[PyData.eqv,bF];rfl)
def intD:PyData->Int
 |.int i=>i
 |_=>0
structure Sh(t:PyData):Prop where
 lay:t.canLay0=true
 dep:t.depth<=60
theorem Sh.shaped{t:PyData}(h:Sh t):SeqAt.shaped t=true:=by
 unfold SeqAt.shaped
 rw[h.lay,Bool.true_and,decide_eq_true_eq]
 have:=h.dep;omega
theorem HZ:∀{xs:List PyData},PyData.canLayAll0 xs=true->∀x∈xs,x.canLay0=true
 |[],_,_,h=>nomatch h
 |y::r,e,x,h=>by
  rw[PyData.canLayAll0,and_eq_true] at e
  rcases List.mem_cons.mp h with z|z
  ·rw[z];exact e.1
  ·exact HZ e.2 x z
theorem BD:∀{xs:List PyData} {n:Nat},PyData.depthAll xs<=n->∀x∈xs,x.depth<=n
 |[],_,_,_,h=>nomatch h
 |y::r,n,e,x,h=>by
  rw[PyData.depthAll] at e
  rcases List.mem_cons.mp h with z|z
  ·rw[z];omega
  ·exact BD ∅ x z
theorem Sh.mem{xs:List PyData}(h:Sh (.tuple xs)):∀x∈xs,Sh x:=fun x hx=>⟨HZ (by have:=h.lay;rw[PyData.canLay0] at this;exact this) x hx,by
 have:=h.dep
 rw[PyData.depth] at this
 exact BD (n:=60) ∅ x hx⟩
theorem iO{w:PyData}{s:Str}{neg:Bool}{U:Mu}{Q:DK}(hw:SeqAt.shaped w=true)(hs:SeqAt.shaped (.str s)=true):cW neg (.v w) (.v (.str s)) U Q=Q (.v (.bool (neg ^^ bF s w))) U:=by
 rw[RK,SH]
 exact propext ⟨fun h=>h.2.2,fun h=>⟨hw,hs,h⟩⟩
theorem Pz:SeqAt.shaped (.str "kind")=true:=nofun
theorem O1:SeqAt.shaped (.str "turn")=true:=nofun
theorem GY:SeqAt.shaped (.str "grid")=true:=nofun
theorem XU:SeqAt.shaped (.str "upon")=true:=nofun
theorem XT:SeqAt.shaped (.str "beside")=true:=nofun
def eN(m:Int)(w x:PyData):Option (List PyData):=
 if bF "kind" w=true then (if (isWhole x&&(decide (0<=intD x)&&decide (intD x<m)))=true then some [] else none)
 else if bF "turn" w=true then some [x]
 else if (bF "upon" w || bF "beside" w)=true then (match x with|.tuple xs=>if 2<=xs.length/\xs.length<=8 then some xs else none|_=>none)
 else none
def qV(w u v x:PyData):Option (List PyData):=
 if bF "grid" w=true then (if ((isWhole u&&decide (1<=intD u))&&(isWhole v&&decide (1<=intD v)))=true then some [x] else none) else none
def oD(m:Int):PyData->Option (List PyData)
 |.tuple [w,x]=>eN m w x
 |.tuple [w,u,v,x]=>qV w u v x
 |_=>none
def cnt(m:Int):Nat->PyData->Nat
 |0,_=>0
 |n+1,t=>match oD m t with
  |none=>0
  |some ps=>if (ps.map (cnt m n)).all (fun c=>decide (0<c))=true then 1+(ps.map (cnt m n)).sum else 0
def okN(c:Nat):Bool:=decide (0<c)&&decide (c<=60)
noncomputable def zJ:DSp:=fun ds U Q=>∃t,ds=[.v t]/\Q (.v (.bool (isWhole t&&decide (1<=intD t)))) U
theorem JX{U:Mu}{Q:DK}{ds:List D}(h:zJ ds U Q):ds.length=1:=by obtain⟨_,rfl,_⟩:=h;rfl
noncomputable def IA:DSp:=fun ds U Q=>∃(t:PyData) (m:Int),ds=[.v t,.v (.int m)]/\Sh t/\Q (.v (.bool (oD m t).isSome)) U
theorem MP{U:Mu}{Q:DK}{ds:List D}(h:IA ds U Q):ds.length=2:=by obtain⟨_,_,rfl,_⟩:=h;rfl
noncomputable def xC:DSp:=fun ds U Q=>∃(t:PyData) (m:Int) (ps:List PyData),ds=[.v t]/\Sh t/\oD m t=some ps/\Q (.v (.list ps)) U
theorem KD{U:Mu}{Q:DK}{ds:List D}(h:xC ds U Q):ds.length=1:=by obtain⟨_,_,_,rfl,_⟩:=h;rfl
noncomputable def tJ:DSp:=fun ds U Q=>∃(t:PyData) (m:Int),ds=[.v t,.v (.int m)]/\Sh t/\∀Y,(∀b ds,U b=some ds->Y b=some ds)->Q (.v (.bool (okN (cnt m 12 t)))) Y
theorem Ga{U:Mu}{Q:DK}{ds:List D}(h:tJ ds U Q):ds.length=2:=by obtain⟨_,_,rfl,_⟩:=h;rfl
theorem TY{x:Str}:isT "str" (.str x)=true:=rfl
theorem T7{xs:List PyData}:isT "tuple" (.tuple xs)=true:=rfl
theorem WO{u:Int}:isWhole (.int u)=true:=rfl
theorem Uu:decide (((2:Nat):Int)<2)=false:=rfl
theorem Uq:decide (((0:Nat):Int)<2)=true:=rfl
theorem Us:decide (((1:Nat):Int)<2)=true:=rfl
theorem Ur:decide (((3:Nat):Int)<2)=false:=rfl
theorem Uj:decide (((4:Nat):Int)<2)=false:=rfl
theorem Xz:decide (((2:Nat):Int)=2)=true:=rfl
theorem X2:decide (((3:Nat):Int)=2)=false:=rfl
theorem X0:decide (((4:Nat):Int)=2)=false:=rfl
theorem WR:decide (((2:Nat):Int)=4)=false:=rfl
theorem W4:decide (((3:Nat):Int)=4)=false:=rfl
theorem Wt:decide (((4:Nat):Int)=4)=true:=rfl
theorem T5{n:Nat}:decide (((n+1+1+1+1+1:Nat):Int)<2)=false:=decide_eq_false ∅
theorem Xw{n:Nat}:decide (((n+1+1+1+1+1:Nat):Int)=2)=false:=decide_eq_false ∅
theorem WX{n:Nat}:decide (((n+1+1+1+1+1:Nat):Int)=4)=false:=decide_eq_false ∅
theorem QB{m:Nat}:decide (((m+1:Nat):Int)=0)=false:=decide_eq_false ∅
theorem Wu{m:Nat}:decide ((0:Int)<=(m:Int))=true:=decide_eq_true ∅
theorem Yx:bF "upon" (.str "kind")=false:=by decide
theorem Ya:bF "turn" (.str "kind")=false:=by decide
theorem Yr:bF "turn" (.str "upon")=false:=by decide
theorem Yc:bF "turn" (.str "beside")=false:=by decide
theorem Yq:bF "turn" (.str "grid")=false:=by decide
theorem TM:bF "turn" (.str "turn")=true:=by decide
theorem YK:bF "grid" (.str "turn")=false:=by decide
theorem Yy:bF "grid" (.str "upon")=false:=by decide
theorem YX:bF "grid" (.str "beside")=false:=by decide
theorem Qm:bF "grid" (.str "grid")=true:=by decide
theorem Yn:bF "beside" (.str "upon")=false:=by decide
theorem SO:bF "kind" (.str "turn")=false:=by decide
theorem Y0:bF "kind" (.str "upon")=false:=by decide
theorem Yu:bF "kind" (.str "beside")=false:=by decide
theorem YE:bF "kind" (.str "grid")=false:=by decide
theorem Wi:bF "kind" (.str "kind")=true:=by decide
theorem WB:bF "upon" (.str "upon")=true:=by decide
theorem WH:bF "upon" (.str "beside")=false:=by decide
theorem WK:bF "upon" (.str "turn")=false:=by decide
theorem V9:bF "upon" (.str "grid")=false:=by decide
theorem Xy:bF "beside" (.str "beside")=true:=by decide
theorem WC:bF "beside" (.str "turn")=false:=by decide
theorem V1:bF "beside" (.str "grid")=false:=by decide
local macro_rules|`(tactic| walk_at "rl")=>mkW "↓iO Pz O1 GY XU XT Wi Ya Yx SO TM WK WC YK Y0 Yr Yy WB Yn Yu Yc YX WH Xy YE Yq V9 V1 Qm ↓Yo ↓l_t ↓l_f l_T l_F YY X4 ↓T9 ↓R0 dz TY T7 WO Uu Uq Us Ur Uj Xz X2 X0 WR W4 Wt T5 Xw WX QB Wu decide_true decide_false Bool.xor_true true_xor ↓zN ↓N5 ↓Of ↓Oa ↓T6 ↓RN ↓Ud ↓T3 ↓x6 ↓yJ ↓A7 ↓wX ↓M6 ↓NA ↓Nx ↓ND ↓L9 ↓Mt ↓q_c ↓Yj ↓q_B ↓Vw ↓Rk ↓Ro ↓Wk ↓Xx ↓MV ↓UK ↓Np ↓YG ↓kf ↓gv ↓Cq ↓CG ↓L6 ↓CS ↓CQ ↓Ct ↓RM ↓RG ↓wo ↓Mm ↓MK ↓Ib ↓HF ↓Je ↓Ng ↓D1 ↓CH ↓Qh ↓RY ↓Q0 ↓Mn ↓MX ↓Na ↓Vq ↓DP ↓NF ↓Q1 ↓Yg ↓wa ↓Mj ↓NB ↓Jt ↓Rw ↓V7 ↓Mp ↓HD ↓Ol ↓Rx ↓eW ↓H0 ↓Dq ↓JM ↓ML ↓Xl ↓Rz ↓MQ ↓qF ↓CD ↓Nu ↓Xc ↓Jy ↓V4 ↓Qo ↓Ry ↓Ti ↓wd ↓zT ↓HN ↓zQ ↓Eo ↓Fg ↓Ex Sk wx xh CL Ck Es bind_none bind_some join_some getElem?_cons_zero getElem?_cons_succ aS Uh Rb RW Qv Uc Av FA HA Ll N8 map_cons map_nil List.append List.replicate length_cons length_nil Nat.reduceAdd Nat.reduceSub nil_append cons_append set_cons_zero set_cons_succ map_some Bool.not_true Bool.not_false false_eq_true Bool.true_eq_false xor_false false_xor"
local macro_rules|`(tactic| walk_at "rt")=>mkW "↓T9 ↓R0 dz TY T7 WO Uu Uq Us Ur Uj Xz X2 X0 WR W4 Wt T5 Xw WX QB Wu decide_true decide_false Bool.xor_true true_xor ↓zN ↓N5 ↓Of ↓Oa ↓T6 ↓N6 ↓RN ↓Ud ↓T3 ↓x6 ↓yJ ↓A7 ↓wX ↓M6 ↓NA ↓Nx ↓ND ↓L9 ↓Mt ↓q_c ↓Mr ↓q_B ↓Vw ↓Rk ↓Ro ↓yj ↓Ut ↓MV ↓Rc ↓Np ↓XR ↓kf ↓gv ↓Cq ↓CG ↓L6 ↓CS ↓CQ ↓Ct ↓RM ↓RG ↓wo ↓Mm ↓MK ↓Ib ↓HF ↓Je ↓Ng ↓D1 ↓CH ↓Qh ↓RY ↓Q0 ↓Mn ↓MX ↓Na ↓Vq ↓DP ↓NF ↓Q1 ↓Ke ↓wa ↓Mj ↓NB ↓Jt ↓Rw ↓V7 ↓Mp ↓HD ↓Ol ↓Rx ↓eW ↓H0 ↓Dq ↓JM ↓ML ↓Fe ↓Rz ↓MQ ↓qF ↓CD ↓Nu ↓D0 ↓Jy ↓AY ↓Qo ↓Ry ↓NQ ↓wd ↓zT ↓HN ↓zQ ↓Eo ↓Fg ↓Ex Sk ↓II ↓rE wx xh CL Ck Es bind_none bind_some join_some getElem?_cons_zero getElem?_cons_succ aS Uh Rb RW Qv Uc Av FA HA Ll N8 List.map List.append List.replicate length_cons length_nil Nat.reduceAdd Nat.reduceSub nil_append cons_append set_cons_zero set_cons_succ map_some ↓reduceIte Bool.not_true Bool.not_false false_eq_true Bool.true_eq_false xor_false false_xor"
noncomputable def vP:DTS:=
 (bM (lN (aB ix (ae (ag 0) ai)) (dOp rGe (ag 0) (dC (.int 1)))))
noncomputable def w8:DTS:=
 (aY (cZ (qL (iQ (dB (EO "tuple" (ag 0)))) (dB (dOp rLt (dCB cI (ae (ag 0) ai)) (dC (.int 2))))) (bM (dC (.bool false))) cg)
 (aY (bJ (dOp aI (ag 0) (dC (.int 0))) (ar 2))
 (aY (cZ (dB (dOp (cW false) (ag 2) (dC (.str "grid")))) (bM (lN (dOp (cW false) (dCB cI (ae (ag 0) ai)) (dC (.int 4))) (lN (aB zJ (ae (dOp aI (ag 0) (dC (.int 1))) ai)) (aB zJ (ae (dOp aI (ag 0) (dC (.int 2))) ai))))) cg)
 (aY (cZ (dB (dOp (cW true) (dCB cI (ae (ag 0) ai)) (dC (.int 2)))) (bM (dC (.bool false))) cg)
 (aY (cZ (dB (dOp (cW false) (ag 2) (dC (.str "kind")))) (bM (lN (aB ix (ae (dOp aI (ag 0) (dC (.int 1))) ai)) (lN (dOp rGe (dOp aI (ag 0) (dC (.int 1))) (dC (.int 0))) (dOp rLt (dOp aI (ag 0) (dC (.int 1))) (ag 1))))) cg)
 (aY (cZ (qL (dB (dOp (cW false) (ag 2) (dC (.str "upon")))) (dB (dOp (cW false) (ag 2) (dC (.str "beside"))))) (bM (lN (EO "tuple" (dOp aI (ag 0) (dC (.int 1)))) (lN (dOp rGe (dCB cI (ae (dOp aI (ag 0) (dC (.int 1))) ai)) (dC (.int 2))) (dOp rLe (dCB cI (ae (dOp aI (ag 0) (dC (.int 1))) ai)) (dC (.int 8)))))) cg)
 (bM (dOp (cW false) (ag 2) (dC (.str "turn"))))))))))
noncomputable def xc:DTS:=
 (aY (bJ (dOp aI (ag 0) (dC (.int 0))) (ar 1))
 (aY (cZ (dB (dOp (cW false) (ag 1) (dC (.str "kind")))) (bM (ff ai)) cg)
 (aY (cZ (qL (dB (dOp (cW false) (ag 1) (dC (.str "upon")))) (dB (dOp (cW false) (ag 1) (dC (.str "beside"))))) (bM (dCB oV (ae (dOp aI (ag 0) (dC (.int 1))) ai))) cg)
 (bM (ff (ae (dOp aI (ag 0) (Cc (dC (.int 1)))) ai))))))
noncomputable def yy:DTS:=
 (aY (bJ (G8 (ae (bj (ae (ag 0) (ae (dC (.int 1)) ai))) ai)) (ar 2))
 (aY (bJ (dC (.int 0)) (ar 3))
 (aY (FJ (PX (ag 2)) (aY (bJ (VR (ag 2)) (iP 2 (bS (ar 4) (bS (ar 5) i7))))
 (aY (VD 3 (dC (.int 1)))
 (aY (cZ (qL (dB (dOp rGt (ag 3) (dC (.int 60)))) (qL (dB (dOp rGt (ag 5) (dC (.int 12)))) (iQ (dB (aB IA (ae (ag 4) (ae (ag 1) ai))))))) (bM (dC (.bool false))) cg)
 (GR (gb (aB xC (ae (ag 4) ai))) (ar 6) (kN (MD (ag 2) (bj (ae (ag 6) (ae (jB (ag 5) (dC (.int 1))) ai))))))))))
 (bM (dC (.bool true))))))
section
variable {U:Mu}{Qd:DK}{ds:List D}
theorem uv{t:PyData}(h:isWhole t=true):∃i,t = .int i:=by
 cases t<;>first|exact⟨_,rfl⟩|(exfalso;exact Bool.false_ne_true h)
theorem K5(h:zJ ds U Qd):vP ‹Qd› (aS [""] ds) U:=by
 obtain⟨t,rfl,q⟩:=h
 unfold vP
 walk_at "rt"
 refine⟨t,rfl,?_⟩
 walk_at "rt"
 cases e:isWhole t with
 |true=>
  obtain⟨i,rfl⟩:=uv e
  walk_at "rt"
  exact q
 |false=>
  rw[e] at q
  walk_at "rt"
  exact q
theorem uD{s:Str}{w:PyData}(h:bF s w=true):w = .str s:=by
 cases w<;>first|(exfalso;exact Bool.false_ne_true h)|(rename_i x;have:x=s:=of_decide_eq_true h;rw[this])
theorem Ss{m:Int}{x:PyData}:eN m (.str "grid") x=none:=by
 unfold eN
 rw[if_neg ⋯,if_neg ⋯,if_neg ⋯]
def Co:PyData->Option (List PyData)
 |.tuple xs=>if 2<=xs.length/\xs.length<=8 then some xs else none
 |_=>none
theorem Om{m:Int}{x:PyData}:eN m (.str "upon") x=Co x:=by
 unfold eN
 rw[if_neg ⋯,if_neg ⋯,if_pos ⋯]
 unfold Co
 cases x<;>rfl
theorem Hs{m:Int}{x:PyData}:eN m (.str "beside") x=Co x:=by
 unfold eN
 rw[if_neg ⋯,if_neg ⋯,if_pos ⋯]
 unfold Co
 cases x<;>rfl
theorem J9{x:PyData}(q':Qd (.v (.bool (Co x).isSome)) U):if isT "tuple" x=true then
   cI [.v x] U fun x_1 ac=>rGe x_1 (.v (.int 2)) ac fun x_2 ac=>match x_2 with
    |.v (.bool c)=>if c=true then cI [.v x] ac fun x ac=>rLe x (.v (.int 8)) ac Qd else Qd (.v (.bool false)) ac
    |_=>False
  else Qd (.v (.bool false)) U:=by
 rcases ua x with ⟨xs,rfl,e⟩|⟨hn,e⟩
 ·rw[e]
  walk_at "rt"
  have q2:Qd (.v (.bool (if 2<=xs.length/\xs.length<=8 then some xs else none).isSome)) U:=q'
  by_cases c1:2<=xs.length
  ·rw[decide_eq_true (by omega:(2:Int)<=(xs.length:Nat))]
   simp only[↓reduceIte]
   by_cases c2:xs.length<=8
   ·rw[decide_eq_true (by omega:((xs.length:Nat):Int)<=8)]
    rw[if_pos ⟨c1,c2⟩] at q2
    exact q2
   ·rw[decide_eq_false (by omega:¬ ((xs.length:Nat):Int)<=8)]
    rw[if_neg (fun z=>c2 z.2)] at q2
    exact q2
  ·rw[decide_eq_false (by omega:¬ (2:Int)<=(xs.length:Nat))]
   simp only[false_eq_true,↓reduceIte]
   rw[if_neg (fun z=>c1 z.1)] at q2
   exact q2
 ·rw[e]
  have:Co x=none:=by cases x<;>first|rfl|exact absurd rfl (hn _)
  rw[this] at q'
  simp only[false_eq_true,↓reduceIte]
  exact q'
theorem Kb(h:IA ds U Qd):w8 ‹Qd› (aS ["","",""] ds) U:=by
 obtain⟨t,m,rfl,hs,q⟩:=h
 unfold w8
 rcases ua t with ⟨xs,rfl,e⟩|⟨hn,e⟩
 ·have hw:=hs.mem
  rcases xs with _|⟨w,_|⟨x,_|⟨y,_|⟨z,_|⟨r,rs⟩⟩⟩⟩⟩
  ·walk_at "rl";exact q
  ·walk_at "rl";exact q
  ·have sw:=(hw w (by simp)).shaped
   have q':Qd (.v (.bool (eN m w x).isSome)) U:=q
   walk_at "rl"
   simp only[iO sw GY,false_xor]
   cases e1:bF "grid" w with
   |true=>
    have ew:=uD e1
    subst ew
    rw[Ss] at q'
    walk_at "rl"
    exact q'
   |false=>
    walk_at "rl"
    simp only[iO sw Pz,false_xor]
    cases e2:bF "kind" w with
    |true=>
     unfold eN at q'
     rw[if_pos e2] at q'
     walk_at "rl"
     refine⟨x,rfl,?_⟩
     cases ex:isWhole x with
     |true=>
      obtain⟨i,rfl⟩:=uv ex
      walk_at "rl"
      have q2:Qd (.v (.bool (if (true&&(decide (0<=i)&&decide (i<m)))=true then some ([]:List PyData) else none).isSome)) U:=q'
      by_cases c1:0<=i
      ·rw[decide_eq_true c1] at q2 ⊢
       simp only[Bool.true_and] at q2
       walk_at "rl"
       cases c2:decide (i<m)<;>rw[c2] at q2<;>exact q2
      ·rw[decide_eq_false c1] at q2 ⊢
       simp only[Bool.true_and,Bool.false_and,false_eq_true,↓reduceIte] at q2
       walk_at "rl"
       exact q2
     |false=>
      rw[ex] at q'
      walk_at "rl"
      exact q'
    |false=>
     walk_at "rl"
     simp only[iO sw XU,false_xor]
     cases e3:bF "upon" w with
     |true=>
      have ew:=uD e3
      subst ew
      rw[Om] at q'
      walk_at "rl"
      exact J9 q'
     |false=>
      walk_at "rl"
      simp only[iO sw XT,false_xor]
      cases e4:bF "beside" w with
      |true=>
       have ew:=uD e4
       subst ew
       rw[Hs] at q'
       walk_at "rl"
       exact J9 q'
      |false=>
       walk_at "rl"
       simp only[iO sw O1,false_xor]
       unfold eN at q'
       rw[if_neg (by rw[e2];decide),e3,e4] at q'
       cases e5:bF "turn" w with
       |true=>rw[if_pos e5] at q';exact q'
       |false=>rw[if_neg (by rw[e5];decide),if_neg ⋯] at q';exact q'
  ·have sw:=(hw w (by simp)).shaped
   walk_at "rl"
   simp only[iO sw GY,false_xor]
   cases e1:bF "grid" w<;>walk_at "rl"<;>exact q
  ·have sw:=(hw w (by simp)).shaped
   have q':Qd (.v (.bool (qV w x y z).isSome)) U:=q
   walk_at "rl"
   simp only[iO sw GY,false_xor]
   unfold qV at q'
   cases e1:bF "grid" w with
   |true=>
    rw[if_pos e1] at q'
    walk_at "rl"
    refine⟨x,rfl,?_⟩
    cases c1:(isWhole x&&decide (1<=intD x)) with
    |true=>
     walk_at "rl"
     refine⟨y,rfl,?_⟩
     rw[c1] at q'
     cases c2:(isWhole y&&decide (1<=intD y))<;>rw[c2] at q'<;>exact q'
    |false=>
     rw[c1] at q'
     walk_at "rl"
     exact q'
   |false=>rw[if_neg (by rw[e1];decide)] at q';walk_at "rl";exact q'
  ·have sw:=(hw w (by simp)).shaped
   walk_at "rl"
   simp only[iO sw GY,false_xor]
   cases e1:bF "grid" w<;>walk_at "rl"<;>exact q
 ·walk_at "rl"
  rw[e]
  walk_at "rl"
  have:oD m t=none:=by cases t<;>first|rfl|exact absurd rfl (hn _)
  rw[this] at q
  exact q
theorem Fm{m:Int}{t:PyData}{ps:List PyData}(h:oD m t=some ps):(∃x,t = .tuple [.str "kind",x]/\ps=[])\/(∃x,t = .tuple [.str "turn",x]/\ps=[x])\/((∃xs,t = .tuple [.str "upon",.tuple xs]/\ps=xs/\2<=xs.length/\xs.length<=8)\/(∃xs,t = .tuple [.str "beside",.tuple xs]/\ps=xs/\2<=xs.length/\xs.length<=8))\/(∃u v x,t = .tuple [.str "grid",u,v,x]/\ps=[x]):=by
 unfold oD at h
 split at h
 ·rename_i w x
  unfold eN at h
  split at h
  ·rename_i e
   rw[uD e]
   split at h
   ·cases h;exact .inl ⟨x,rfl,rfl⟩
   ·cases h
  ·split at h
   ·rename_i e
    rw[uD e]
    cases h;exact .inr (.inl ⟨x,rfl,rfl⟩)
   ·split at h
    ·rename_i e
     have hx:∃xs,x = .tuple xs/\(2<=xs.length/\xs.length<=8)/\ps=xs:=by
      split at h
      ·rename_i xs
       split at h
       ·rename_i c;cases h;exact⟨_,rfl,c,rfl⟩
       ·cases h
      ·cases h
     obtain⟨xs,rfl,c,rfl⟩:=hx
     rw[Bool.or_eq_true] at e
     rcases e with e|e
     ·rw[uD e];exact .inr (.inr (.inl (.inl ⟨_,rfl,rfl,c.1,c.2⟩)))
     ·rw[uD e];exact .inr (.inr (.inl (.inr ⟨_,rfl,rfl,c.1,c.2⟩)))
    ·cases h
 ·rename_i w u v x
  unfold qV at h
  split at h
  ·rename_i e
   rw[uD e]
   split at h
   ·cases h;exact .inr (.inr (.inr ⟨u,v,x,rfl,rfl⟩))
   ·cases h
  ·cases h
 ·cases h
theorem HU{m:Int}{t:PyData}{ps:List PyData}(h:oD m t=some ps)(hs:Sh t):(∀p∈ps,Sh p)/\ps.length<=8:=by
 rcases Fm h with ⟨x,rfl,rfl⟩|⟨x,rfl,rfl⟩|(⟨xs,rfl,rfl,c1,c2⟩|⟨xs,rfl,rfl,c1,c2⟩)|⟨u,v,x,rfl,rfl⟩
 ·exact⟨fun _ z=>(nomatch z),by simp⟩
 ·exact⟨fun p z=>by rw[List.mem_singleton.mp z];exact hs.mem x (by simp),by simp⟩
 ·exact⟨(hs.mem (.tuple ps) (by simp)).mem,c2⟩
 ·exact⟨(hs.mem (.tuple ps) (by simp)).mem,c2⟩
 ·exact⟨fun p z=>by rw[List.mem_singleton.mp z];exact hs.mem x (by simp),by simp⟩
theorem K8(h:xC ds U Qd):xc ‹Qd› (aS ["",""] ds) U:=by
 obtain⟨t,m,ps,rfl,hs,hf,q⟩:=h
 unfold xc
 rcases Fm hf with ⟨x,rfl,rfl⟩|⟨x,rfl,rfl⟩|(⟨xs,rfl,rfl,c1,c2⟩|⟨xs,rfl,rfl,c1,c2⟩)|⟨u,v,x,rfl,rfl⟩
 ·walk_at "rl"
  exact q
 ·walk_at "rl"
  exact q
 ·walk_at "rl"
  exact q
 ·walk_at "rl"
  exact q
 ·walk_at "rl"
  exact q
def ent(e:PyData×Nat):PyData:=.tuple [e.1,.int (e.2:Nat)]
def wt(m:Int)(e:PyData×Nat):Nat:=cnt m (13-e.2) e.1
noncomputable def Good(m:Int)(S:List (PyData×Nat))(c:Nat):Prop:=(∀e∈S,0<wt m e)/\c+(S.map (wt m)).sum<=60
theorem JK(xs ys:List Nat):(xs++ys).sum=xs.sum+ys.sum:=List.sum_append
theorem EW{m:Int}{L:List (PyData×Nat)}{e:PyData×Nat}{c:Nat}(h:Good m (L++[e]) c):0<wt m e/\c+1<=60:=by
 have p:=h.1 e (by simp)
 have s:=h.2
 rw[map_append,JK] at s
 simp only[map_cons,map_nil,sum_cons,sum_nil] at s
 exact⟨p,∅⟩
theorem cnt_none{m:Int}{n:Nat}{t:PyData}(h:oD m t=none):cnt m n t=0:=by
 cases n with
 |zero=>rfl
 |succ n=>simp only[cnt,h]
theorem vQ{m:Int}{n:Nat}{t:PyData}{ps:List PyData}(h:oD m t=some ps):cnt m (n+1) t=if (ps.map (cnt m n)).all (fun c=>decide (0<c))=true then 1+(ps.map (cnt m n)).sum else 0:=by
 simp only[cnt,h]
theorem PF{m:Int}{L:List (PyData×Nat)}{t:PyData}{d c:Nat}{ps:List PyData}(hd:d<=12)(hf:oD m t=some ps):Good m (L++ps.map (fun p=>(p,d+1))) (c+1)↔Good m (L++[(t,d)]) c:=by
 obtain⟨n,hn⟩:∃n,13-d=n+1:=⟨12-d,∅⟩
 have e1:wt m (t,d)=if (ps.map (cnt m n)).all (fun c=>decide (0<c))=true then 1+(ps.map (cnt m n)).sum else 0:=by
  show cnt m (13-d) t=_
  rw[hn,vQ hf]
 have e2:∀p,wt m (p,d+1)=cnt m n p:=fun p=>by show cnt m (13-(d+1)) p=_;congr 1;omega
 have e3:(ps.map (fun p=>(p,d+1))).map (wt m)=ps.map (cnt m n):=by
  rw[map_map];exact List.map_congr_left fun p _=>e2 p
 unfold Good
 rw[map_append,map_append,JK,JK,e3]
 simp only[map_cons,map_nil,sum_cons,sum_nil,Nat.add_zero]
 rw[e1]
 by_cases ha:(ps.map (cnt m n)).all (fun c=>decide (0<c))=true
 ·rw[if_pos ha]
  have hp:∀p∈ps,0<cnt m n p:=fun p hp=>by
   have:=List.all_eq_true.mp ha (cnt m n p) (mem_map_of_mem hp)
   exact of_decide_eq_true this
  constructor
  ·rintro ⟨h1,h2⟩
   refine⟨fun e he=>?_,∅⟩
   rcases List.mem_append.mp he with z|z
   ·exact h1 e (mem_append_left _ z)
   ·rw[List.mem_singleton.mp z,e1,if_pos ha];omega
  ·rintro ⟨h1,h2⟩
   refine⟨fun e he=>?_,∅⟩
   rcases List.mem_append.mp he with z|z
   ·exact h1 e (mem_append_left _ z)
   ·obtain⟨p,hp',rfl⟩:=List.mem_map.mp z
    rw[e2];exact hp p hp'
 ·rw[if_neg ha]
  constructor
  ·rintro ⟨h1,h2⟩
   exfalso
   apply ha
   rw[all_eq_true]
   intro x hx
   obtain⟨p,hp',rfl⟩:=List.mem_map.mp hx
   have:=h1 (p,d+1) (mem_append_right _ (mem_map_of_mem hp'))
   rw[e2] at this
   exact decide_eq_true this
  ·rintro ⟨h1,h2⟩
   exfalso
   have:=h1 (t,d) (by simp)
   rw[e1,if_neg ha] at this
   omega
theorem M8{m:Int}{t:PyData}:Good m [(t,1)] 0↔okN (cnt m 12 t)=true:=by
 unfold Good okN
 have:wt m (t,1)=cnt m 12 t:=rfl
 simp only[List.mem_singleton,forall_eq,map_cons,map_nil,sum_cons,sum_nil,this,and_eq_true,decide_eq_true_eq]
 omega
theorem Nl(h:tJ ds U Qd):yy ‹Qd› (aS ["","","","","","",""] ds) U:=by
 obtain⟨t,m,rfl,hs,q⟩:=h
 unfold yy
 walk_at "rt"
 intro pw hpw
 rw[SY]
 refine⟨fun k ρ Y=>∃(S:List (PyData×Nat)) (c:Nat) (r4 r5 r6:Option D),ρ=[some (.v t),some (.v (.int m)),some (.m pw),some (.v (.int c)),r4,r5,r6]/\Y pw=some (S.map ent)/\(∀b ds,b≠pw->U b=some ds->Y b=some ds)/\(∀e∈S,Sh e.1)/\S.length<=1+8*c/\c<=60/\k=61-c/\(Good m S c↔okN (cnt m 12 t)=true),
  ⟨61,[(t,1)],0,none,none,none,rfl,bP,fun b ds hb e=>by rw[bR hb];exact e,fun e he=>by rw[List.mem_singleton.mp he];exact hs,by simp,∅,rfl,M8⟩,?_⟩
 rintro k ρ Y ⟨S,c,r4,r5,r6,rfl,hm,hk,hS,hl,hc,rfl,hg⟩
 have keep:∀b ds,U b=some ds->Y b=some ds:=fun b ds e=>hk b ds (fun z=>by rw[z,hpw] at e;cases e) e
 walk_at "rt"
 rw[hm]
 rcases List.eq_nil_or_concat S with rfl|⟨L,e,rfl⟩
 ·have:okN (cnt m 12 t)=true:=hg.mp ⟨fun _ z=>(nomatch z),by simpa using hc⟩
  have q':=q Y keep
  rw[this] at q'
  exact q'
 ·obtain⟨t',d⟩:=e
  rw[List.concat_eq_append] at hm hS hl hg
  have nok:¬ Good m (L++[(t',d)]) c->okN (cnt m 12 t)=false:=fun h=>by
   cases z:okN (cnt m 12 t) with
   |true=>exact absurd (hg.mpr z) h
   |false=>rfl
  have hemp:(List.map ent (L++[(t',d)])).isEmpty=false:=by simp
  rw[List.concat_eq_append]
  dsimp only
  rw[hemp]
  simp only[Bool.not_false,↓reduceIte]
  have hkw:∀b ds,U b=some ds->aR Y pw (List.map ent L) b=some ds:=fun b ds e=>by
   have hb:b≠pw:=fun z=>by rw[z,hpw] at e;cases e
   rw[bR hb];exact hk b ds hb e
  refine⟨ent (t',d),by simp,?_⟩
  have edl:(List.map ent (L++[(t',d)])).dropLast=List.map ent L:=by simp
  rw[edl]
  show iP 2 (bS (ar 4) (bS (ar 5) i7)) (.v (.tuple [t',.int (d:Nat)])) _ _ _
  have q0:okN (cnt m 12 t)=false->Qd (.v (.bool false)) (aR Y pw (List.map ent L)):=fun z=>by
   have:=q _ hkw
   rw[z] at this
   exact this
  have st':Sh t':=hS (t',d) (by simp)
  walk_at "rt"
  refine⟨trivial,?_⟩
  rw[Xf]
  refine⟨c,rfl,?_⟩
  walk_at "rl"
  by_cases c1:60<(c:Int)+1
  ·rw[tH (by simpa using c1)]
   exact q0 (nok fun g=>by have:=EW g;omega)
  ·rw[rB (by simpa using c1)]
   walk_at "rl"
   by_cases c2:12<(d:Int)
   ·rw[tH (by simpa using c2)]
    refine q0 (nok fun g=>?_)
    have h0:wt m (t',d)=0:=by show cnt m (13-d) t'=0;rw[show 13-d=0 by omega];rfl
    have:=EW g;omega
   ·rw[rB (by simpa using c2)]
    walk_at "rl"
    refine⟨t',m,rfl,st',?_⟩
    walk_at "rl"
    cases hf:oD m t' with
    |none=>
     simp only[Option.isSome_none]
     walk_at "rl"
     refine q0 (nok fun g=>?_)
     have h0:wt m (t',d)=0:=cnt_none hf
     have:=EW g;omega
    |some ps=>
     simp only[Option.isSome_some]
     walk_at "rl"
     obtain⟨hps,lps⟩:=HU hf st'
     rw[EH]
     walk_at "rt"
     refine⟨t',m,ps,rfl,st',hf,?_⟩
     rw[length_append,length_singleton] at hl
     refine⟨fun i ρ ad=>∃r6,ρ=[some (.v t),some (.v (.int m)),some (.m pw),some (.v (.int ((c:Int)+1))),some (.v t'),some (.v (.int (d:Nat))),r6]/\ad pw=some (List.map ent (L++(ps.take i).map (fun p=>(p,d+1))))/\∀b,b≠pw->ad b=Y b,⟨_,rfl,by rw[bP];simp,fun b hb=>bR hb⟩,?_,?_⟩
     ·rintro i x ρ ad hx ⟨r6,rfl,hm2,hk2⟩
      have hi:i<ps.length:=by
       rcases lt_or_ge i ps.length with z|z
       ·exact z
       ·rw[List.getElem?_eq_none z] at hx;cases hx
      walk_at "rt"
      simp only[hm2]
      refine⟨?_,_,rfl,?_,fun b hb=>by rw[bR hb];exact hk2 b hb⟩
      ·rw[length_map,length_append,length_map,length_take];omega
      ·rw[bP,take_succ,hx]
       simp[ent]
     ·rintro ρ ad ⟨r6,rfl,hm2,hk2⟩
      rw[take_length] at hm2
      refine⟨61-(c+1),∅,L++ps.map (fun p=>(p,d+1)),c+1,_,_,_,rfl,hm2,fun b ds hb e=>by rw[hk2 b hb];exact hk b ds hb e,fun e he=>?_,?_,∅,rfl,(PF ∅ hf).trans hg⟩
      ·rcases List.mem_append.mp he with z|z
       ·exact hS e (mem_append_left _ z)
       ·obtain⟨p,hp,rfl⟩:=List.mem_map.mp z
        exact hps p hp
      ·rw[length_append,length_map];omega
end
noncomputable def fX(n:Nat):DSp:=fun ds U Q=>∃(t:PyData) (m:Int) (deep:Nat),ds=[.v t,.v (.int m),.v (.int deep)]/\deep<n/\Sh t/\∀Y,(∀b ds,U b=some ds->Y b=some ds)->Q (.v (.int (cnt m deep t))) Y
theorem GD{n:Nat}{U:Mu}{Q:DK}{ds:List D}(h:fX n ds U Q):ds.length=3:=by obtain⟨_,_,_,rfl,_⟩:=h;rfl
theorem Fx{U:Mu}{Q:DK}{ds:List D}(h:fX 0 ds U Q):False:=by obtain⟨_,_,_,_,h,_⟩:=h;omega
noncomputable def xm:DSp:=fun ds U Q=>∃(t:PyData) (m:Int),ds=[.v t,.v (.int m)]/\Sh t/\∀Y,(∀b ds,U b=some ds->Y b=some ds)->Q (.v (.bool (okN (cnt m 12 t)))) Y
theorem Gr{U:Mu}{Q:DK}{ds:List D}(h:xm ds U Q):ds.length=2:=by obtain⟨_,_,rfl,_⟩:=h;rfl
noncomputable def EY:DSp:=fun ds U Q=>∃a:Addr,ds=[.m a]/\Bag U a/\∀g Y,1<=g->g<=1000000->Step a U Y->Q (.v (.int g)) Y
theorem Nj{U:Mu}{Q:DK}{ds:List D}(h:EY ds U Q):ds.length=1:=by obtain⟨_,rfl,_⟩:=h;rfl
theorem tF(s:Str)(x:PyData):PyData.eqv (.str s) x=bF s x:=by
 cases x with
 |str y=>
  have e:PyData.eqv (.str s) (.str y)=decide (s=y):=by simp[PyData.eqv];rfl
  rw[e]
  show decide (s=y)=decide (y=s)
  rw[Bool.eq_iff_iff,decide_eq_true_eq,decide_eq_true_eq]
  exact eq_comm
 |_=>first|rfl|simp[PyData.eqv,bF]
theorem HQ:PyData.canLayAll0 [.str "upon",.str "beside"]=true:=nofun
def tot(cs:List Nat):Nat:=if cs=[] then 0 else if cs.all (fun c=>decide (0<c))=true then 1+cs.sum else 0
noncomputable def eV(n:Nat):DTS:=
 (aY (bJ (dJ [none,some 1,some 2] (gb (ag 5)) (ar 0) jb (aB (fX n) (ae (ag 0) (ae (ag 1) (ae (vz (ag 2) (dC (.int 1))) ai))))) (ar 6))
 (aY (cZ (qL (dB (dOp (cW false) (ag 6) (ff ai))) (dB (dOp (cW false) (dCB KC (ae (ag 6) ai)) (dC (.int 0))))) (bM (dC (.int 0))) cg)
 (bM (jB (dC (.int 1)) (dCB DH (ae (ag 6) ai))))))
noncomputable def nH(n:Nat):DTS:=
 (aY (cZ (qL (dB (dOp (cW false) (ag 2) (dC (.int 0)))) (qL (iQ (dB (EO "tuple" (ag 0)))) (dB (dOp rLt (dCB cI (ae (ag 0) ai)) (dC (.int 2)))))) (bM (dC (.int 0))) cg)
 (aY (LG 3 4 (ae (dOp aI (ag 0) (dC (.int 0))) (ae (dCB cI (ae (ag 0) ai)) ai)))
 (aY (cZ (dB (dOp (cW false) (ag 3) (dC (.str "kind")))) (bM (dCB vk (ae (lN (dOp (cW false) (ag 4) (dC (.int 2))) (lN (aB ix (ae (dOp aI (ag 0) (dC (.int 1))) ai)) (yW rLe rLt (dC (.int 0)) (dOp aI (ag 0) (dC (.int 1))) (ag 1)))) ai))) cg)
 (aY (bJ (ff ai) (ar 5))
 (aY (cZ (lL (dB (dOp (cW false) (ag 3) (dC (.str "turn")))) (dB (dOp (cW false) (ag 4) (dC (.int 2))))) (bJ (ff (ae (dOp aI (ag 0) (dC (.int 1))) ai)) (ar 5)) (cZ (lL (dB (dOp (OZ false) (ag 3) (ff (ae (dC (.str "upon")) (ae (dC (.str "beside")) ai))))) (lL (dB (dOp (cW false) (ag 4) (dC (.int 2)))) (dB (EO "tuple" (dOp aI (ag 0) (dC (.int 1))))))) (bJ (dIf (dB (yW rLe rLe (dC (.int 2)) (dCB cI (ae (dOp aI (ag 0) (dC (.int 1))) ai)) (dC (.int 8)))) (dCB oV (ae (dOp aI (ag 0) (dC (.int 1))) ai)) (ff ai)) (ar 5)) (cZ (lL (dB (dOp (cW false) (ag 3) (dC (.str "grid")))) (lL (dB (dOp (cW false) (ag 4) (dC (.int 4)))) (dB (dCB CF (ae (KR [none] (D8 (dSl (ag 0) (tL (dC (.int 1))) (tL (dC (.int 3))))) (ar 0) jb (lN (aB ix (ae (ag 0) ai)) (dOp rGt (ag 0) (dC (.int 0))))) ai))))) (bJ (ff (ae (dOp aI (ag 0) (dC (.int 3))) ai)) (ar 5)) cg)))
 (eV n))))))
noncomputable def lA:DTS:=
 (bM (yW rLt rLe (dC (.int 0)) (aB (fX 31) (ae (ag 0) (ae (ag 1) (ae (dC (.int 12)) ai)))) (dC (.int 60))))
noncomputable def j9:DTS:=
 (bM (jB (dC (.int 1)) (aB bX (ae (ag 0) (ae (dOp aI (ff (ae (dC (.int 2)) (ae (dC (.int 3)) (ae (dC (.int 5)) (ae (dC (.int 3)) (ae (dC (.int 2)) (ae (dC (.int 9)) (ae (dC (.int 4)) (ae (M5 (dC (.int 10)) (dC (.int 6))) ai))))))))) (aB bX (ae (ag 0) (ae (dC (.int 8)) ai)))) ai)))))
section
variable {U:Mu}{Qd:DK}{ds:List D}
theorem TC(cs:List Nat):dz (cs.map fun (c:Nat)=>PyData.int (c:Int))=some (cs.map fun (c:Nat)=>(c:Int)):=by
 induction cs with
 |nil=>rfl
 |cons c r ih=>simp only[map_cons,dz,ih,map_some]
theorem QS(cs:List Nat):(cs.map fun (c:Nat)=>(c:Int)).sum=((cs.sum:Nat):Int):=by
 induction cs with
 |nil=>rfl
 |cons c r ih=>simp only[map_cons,sum_cons,ih];omega
theorem min_zero{cs:List Nat}{M:Int}(h1:M∈cs.map fun (c:Nat)=>(c:Int))(h2:∀a∈cs.map fun (c:Nat)=>(c:Int),M<=a):M=0↔cs.all (fun c=>decide (0<c))=false:=by
 obtain⟨c,hc,rfl⟩:=List.mem_map.mp h1
 constructor
 ·intro z
  rw[Bool.eq_false_iff]
  intro ha
  have:=List.all_eq_true.mp ha c hc
  have:=of_decide_eq_true this
  omega
 ·intro hf
  have:∃x∈cs,¬ 0<x:=by
   rcases Classical.em (∃x∈cs,¬ 0<x) with z|z
   ·exact z
   ·exfalso
    rw[Bool.eq_false_iff] at hf
    apply hf
    rw[all_eq_true]
    intro x hx
    rcases lt_or_ge 0 x with w|w
    ·exact decide_eq_true w
    ·exact absurd ⟨x,hx,∅⟩ z
  obtain⟨x,hx,hx0⟩:=this
  have:=h2 (x:Int) (mem_map_of_mem hx)
  omega
theorem shaped_ints(cs:List Nat):SeqAt.shaped (.list (cs.map fun (c:Nat)=>PyData.int (c:Int)))=true:=by
 have h1:PyData.canLayAll0 (cs.map fun (c:Nat)=>PyData.int (c:Int))=true:=by
  induction cs with
  |nil=>rfl
  |cons c r ih=>simp only[map_cons,PyData.canLayAll0,PyData.canLay0,ih,Bool.and_true]
 have h2:PyData.depthAll (cs.map fun (c:Nat)=>PyData.int (c:Int))=0:=by
  induction cs with
  |nil=>rfl
  |cons c r ih=>simp only[map_cons,PyData.depthAll,PyData.depth,PyData.canLayAll0,PyData.canLay0,and_eq_true] at *;rw[ih (by simpa [PyData.canLayAll0,PyData.canLay0] using h1)];rfl
 unfold SeqAt.shaped
 rw[PyData.canLay0,h1,PyData.depth,h2]
 rfl
theorem FL{n k:Nat}{t w s:D}{m:Int}{ps:List PyData}{r6:Option D}{Dd:wV}(hk:k<n)(hps:∀p∈ps,Sh p)(lps:ps.length<=8)
  (q:∀Y,(∀b ds,U b=some ds->Y b=some ds)->Dd.rt (.v (.int (tot (ps.map (cnt m k))))) Y) :
  eV n Dd [some t,some (.v (.int m)),some (.v (.int ((k+1:Nat):Int))),some w,some s,some (.v (.list ps)),r6] U:=by
 unfold eV
 walk_at "rt"
 refine⟨∅,fun a ha=>⟨fun i acc Y=>acc=((ps.take i).map fun p=>PyData.int (cnt m k p:Nat))/\∀b ds,b≠a->U b=some ds->Y b=some ds,⟨by simp,fun b ds hb e=>by rw[bR hb];exact e⟩,?_,?_⟩⟩
 ·rintro i x acc Y hx hacc ⟨rfl,hk'⟩
  refine⟨⟨trivial,trivial,trivial⟩,x,m,k,?_,hk,hps x (mem_of_getElem? hx),fun ce h4=>⟨h4 _ _ hacc,?_,fun b ds hb e=>by rw[bR hb];exact h4 b ds (hk' b ds hb e)⟩⟩
  ·congr 1;congr 1;congr 1;congr 1;congr 1;omega
  ·rw[take_succ,hx];simp
 ·rintro acc Y ⟨rfl,hk'⟩ hacc
  have q':=q (j4 Y a) fun b ds e=>by
   have hb:b≠a:=fun z=>by rw[z,ha] at e;cases e
   rw[sF hb];exact hk' b ds hb e
  rw[take_length]
  have em:(ps.map fun p=>PyData.int (cnt m k p:Nat))=(ps.map (cnt m k)).map fun (c:Nat)=>PyData.int (c:Int):=by rw[map_map];rfl
  rw[em]
  generalize ps.map (cnt m k)=cs at q'
  refine⟨shaped_ints cs,rfl,?_⟩
  cases cs with
  |nil=>exact q'
  |cons c r=>
   have e0:PyData.eqv (.list ((c::r).map fun (c:Nat)=>PyData.int (c:Int))) (.list [])=false:=by simp[PyData.eqv,PyData.eqvAll]
   rw[e0,TC]
   simp only[false_eq_true,↓reduceIte]
   refine⟨by simp,fun M h1 h2=>?_⟩
   have hz:=min_zero h1 h2
   have q2:Dd.rt (.v (.int ((if (c::r).all (fun c=>decide (0<c))=true then 1+(c::r).sum else 0:Nat):Int))) (j4 Y a):=q'
   cases ea:(c::r).all (fun c=>decide (0<c)) with
   |true=>
    rw[if_pos ea] at q2
    rw[decide_eq_false (fun z=>by rw[hz,ea] at z;cases z)]
    simp only[false_eq_true,↓reduceIte]
    rw[QS]
    have e1:(1:Int)+(((c::r).sum:Nat):Int)=((1+(c::r).sum:Nat):Int):=by omega
    rw[e1]
    exact q2
   |false=>
    rw[if_neg (by rw[ea];decide)] at q2
    rw[decide_eq_true (hz.mpr ea)]
    exact q2
theorem VA{m:Int}{k:Nat}{t:PyData}{ps:List PyData}(h:oD m t=some ps)(hne:ps≠[]):cnt m (k+1) t=tot (ps.map (cnt m k)):=by
 rw[vQ h]
 unfold tot
 rw[if_neg (fun z=>hne (List.map_eq_nil_iff.mp z))]
theorem B3(n:Nat)(h:fX (n+1) ds U Qd):nH n ‹Qd› (aS ["","","","","","",""] ds) U:=by
 obtain⟨t,m,deep,rfl,hn,hs,q⟩:=h
 unfold nH
 cases deep with
 |zero=>
  walk_at "rl"
  exact q U fun _ _ e=>e
 |succ k=>
  have q0:oD m t=none->Qd (.v (.int 0)) U:=fun z=>by
   have:=q U fun _ _ e=>e
   rw[cnt_none z] at this
   exact this
  have kn:k<n:=by omega
  have tail0:∀{w s:D} {r6:Option D},oD m t=none->eV n ‹Qd› [some (.v t),some (.v (.int m)),some (.v (.int ((k+1:Nat):Int))),some w,some s,some (.v (.list [])),r6] U:=fun {w s r6} z=>
   FL kn (fun _ z=>(nomatch z)) (by simp) fun Y h=>by
    have:=q Y h
    rw[cnt_none z] at this
    exact this
  have tail1:∀{w s:D} {r6:Option D} {ps:List PyData},oD m t=some ps->ps≠[]->eV n ‹Qd› [some (.v t),some (.v (.int m)),some (.v (.int ((k+1:Nat):Int))),some w,some s,some (.v (.list ps)),r6] U:=fun {w s r6 ps} z hne=>
   FL kn (HU z hs).1 (HU z hs).2 fun Y h=>by
    have:=q Y h
    rw[VA z hne] at this
    exact this
  rcases ua t with ⟨xs,rfl,e⟩|⟨hn',e⟩
  ·have hw:=hs.mem
   rcases xs with _|⟨w,_|⟨x,_|⟨y,_|⟨z,_|⟨r,rs⟩⟩⟩⟩⟩
   ·walk_at "rl";exact q0 rfl
   ·walk_at "rl";exact q0 rfl
   ·have sw:=hw w (by simp)
    walk_at "rl"
    simp only[iO sw.shaped Pz,false_xor]
    have f0:oD m (.tuple [w,x])=eN m w x:=rfl
    have eany:([PyData.str "upon",.str "beside"].any fun b=>PyData.eqv b w)=(bF "upon" w || bF "beside" w):=by simp only[any_cons,any_nil,tF,Bool.or_false]
    cases e1:bF "kind" w with
    |true=>
     walk_at "rl"
     have f1:eN m w x=if (isWhole x&&(decide (0<=intD x)&&decide (intD x<m)))=true then some [] else none:=by unfold eN;rw[if_pos e1]
     have qk:=q U fun _ _ e=>e
     refine⟨x,rfl,?_⟩
     cases ex:isWhole x with
     |true=>
      obtain⟨i,rfl⟩:=uv ex
      have f2:eN m w (.int i)=if (decide (0<=i)&&decide (i<m))=true then some [] else none:=f1
      walk_at "rl"
      by_cases c1:0<=i
      ·rw[decide_eq_true c1] at f2 ⊢
       simp only[Bool.true_and] at f2
       walk_at "rl"
       by_cases c2:i<m
       ·rw[decide_eq_true c2] at f2 ⊢
        rw[vQ (f0.trans f2)] at qk
        exact qk
       ·rw[decide_eq_false c2] at f2 ⊢
        exact q0 (f0.trans f2)
      ·rw[decide_eq_false c1] at f2 ⊢
       simp only[Bool.false_and,false_eq_true,↓reduceIte] at f2
       walk_at "rl"
       exact q0 (f0.trans f2)
     |false=>
      walk_at "rl"
      exact q0 (by rw[f0,f1,ex];rfl)
    |false=>
     walk_at "rl"
     simp only[iO sw.shaped O1,false_xor]
     cases e2:bF "turn" w with
     |true=>
      walk_at "rl"
      exact tail1 (by rw[f0];unfold eN;rw[if_neg (by rw[e1];decide),if_pos e2]) (by simp)
     |false=>
      walk_at "rl"
      refine⟨HQ,sw.lay,sw.dep,?_⟩
      rw[eany]
      have f3:eN m w x=if (bF "upon" w || bF "beside" w)=true then Co x else none:=by
       unfold eN
       rw[if_neg (by rw[e1];decide),if_neg (by rw[e2];decide)]
       unfold Co
       cases x<;>rfl
      cases e3:(bF "upon" w || bF "beside" w) with
      |true=>
       rw[e3] at f3
       simp only[↓reduceIte] at f3
       walk_at "rl"
       rcases ua x with ⟨xs,rfl,et⟩|⟨hx,et⟩
       ·rw[et]
        walk_at "rl"
        have f4:eN m w (.tuple xs)=if 2<=xs.length/\xs.length<=8 then some xs else none:=f3
        by_cases c1:2<=xs.length
        ·rw[decide_eq_true (by omega:(2:Int)<=(xs.length:Nat))]
         walk_at "rl"
         by_cases c2:xs.length<=8
         ·rw[decide_eq_true (by omega:((xs.length:Nat):Int)<=8)]
          walk_at "rl"
          exact tail1 (by rw[f0,f4,if_pos ⟨c1,c2⟩]) (fun z=>by rw[z] at c1;simp at c1)
         ·rw[decide_eq_false (by omega:¬ ((xs.length:Nat):Int)<=8)]
          walk_at "rl"
          exact tail0 (by rw[f0,f4,if_neg (fun z=>c2 z.2)])
        ·rw[decide_eq_false (by omega:¬ (2:Int)<=(xs.length:Nat))]
         walk_at "rl"
         exact tail0 (by rw[f0,f4,if_neg (fun z=>c1 z.1)])
       ·rw[et]
        walk_at "rl"
        have fn:oD m (.tuple [w,x])=none:=by rw[f0,f3];cases x<;>first|rfl|exact absurd rfl (hx _)
        simp only[iO sw.shaped GY,false_xor]
        cases bF "grid" w<;>walk_at "rl"<;>exact tail0 fn
      |false=>
       rw[e3] at f3
       simp only[false_eq_true,↓reduceIte] at f3
       walk_at "rl"
       simp only[iO sw.shaped GY,false_xor]
       cases bF "grid" w<;>walk_at "rl"<;>exact tail0 (f0.trans f3)
   ·have sw:=hw w (by simp)
    walk_at "rl"
    simp only[iO sw.shaped Pz,false_xor]
    cases bF "kind" w with
    |true=>walk_at "rl";exact q0 rfl
    |false=>
     walk_at "rl"
     simp only[iO sw.shaped O1,false_xor]
     cases bF "turn" w<;>walk_at "rl"<;>refine⟨HQ,sw.lay,sw.dep,?_⟩<;>cases (List.any _ _)<;>walk_at "rl"<;>simp only[iO sw.shaped GY,false_xor]<;>cases bF "grid" w<;>walk_at "rl"<;>exact tail0 rfl
   ·have sw:=hw w (by simp)
    walk_at "rl"
    have f0:oD m (.tuple [w,x,y,z])=qV w x y z:=rfl
    cases eg:bF "grid" w with
    |true=>
     have ew:=uD eg
     subst ew
     have f1:qV (.str "grid") x y z=if ((isWhole x&&decide (1<=intD x))&&(isWhole y&&decide (1<=intD y)))=true then some [z] else none:=by unfold qV;rw[if_pos Qm]
     have eany:([PyData.str "upon",.str "beside"].any fun b=>PyData.eqv b (.str "grid"))=false:=by simp only[any_cons,any_nil,tF,V9,V1,Bool.or_false]
     walk_at "rl"
     refine⟨HQ,sw.lay,sw.dep,?_⟩
     rw[eany]
     walk_at "rl"
     rw[II]
     walk_at "rl"
     have ec:oR [PyData.str "grid",x,y,z] (some 1) (some 3)=[x,y]:=rfl
     rw[ec]
     refine⟨(by show 2<=1000;decide),fun t=>some (.bool (isWhole t&&decide (1<=intD t))),fun t ht Y _=>⟨trivial,t,rfl,?_⟩,?_⟩
     ·cases et:isWhole t with
      |true=>
       obtain⟨i,rfl⟩:=uv et
       walk_at "rl"
       refine⟨trivial,?_⟩
       have:decide (0<i)=decide (1<=i):=by rw[Bool.eq_iff_iff,decide_eq_true_eq,decide_eq_true_eq];omega
       rw[this]
       rfl
      |false=>
       walk_at "rl"
       exact⟨trivial,by rw[et];rfl⟩
     ·rw[IH (fun t=>PyData.bool (isWhole t&&decide (1<=intD t))),w9]
      simp only[map_cons,map_nil,List.all_cons,List.all_nil,id,Bool.and_true]
      cases ea:((isWhole x&&decide (1<=intD x))&&(isWhole y&&decide (1<=intD y))) with
      |true=>
       rw[ea] at f1
       walk_at "rl"
       exact tail1 (f0.trans f1) (by simp)
      |false=>
       rw[ea] at f1
       walk_at "rl"
       exact tail0 (f0.trans f1)
    |false=>
     have f1:oD m (.tuple [w,x,y,z])=none:=by rw[f0];unfold qV;rw[if_neg (by rw[eg];decide)]
     simp only[iO sw.shaped Pz,false_xor]
     cases bF "kind" w with
     |true=>walk_at "rl";exact q0 f1
     |false=>
      walk_at "rl"
      simp only[iO sw.shaped O1,false_xor]
      cases bF "turn" w<;>walk_at "rl"<;>refine⟨HQ,sw.lay,sw.dep,?_⟩<;>cases (List.any _ _)<;>walk_at "rl"<;>simp only[iO sw.shaped GY,false_xor,eg]<;>walk_at "rl"<;>exact tail0 f1
   ·have sw:=hw w (by simp)
    walk_at "rl"
    simp only[iO sw.shaped Pz,false_xor]
    cases bF "kind" w with
    |true=>walk_at "rl";exact q0 rfl
    |false=>
     walk_at "rl"
     simp only[iO sw.shaped O1,false_xor]
     cases bF "turn" w<;>walk_at "rl"<;>refine⟨HQ,sw.lay,sw.dep,?_⟩<;>cases (List.any _ _)<;>walk_at "rl"<;>simp only[iO sw.shaped GY,false_xor]<;>cases bF "grid" w<;>walk_at "rl"<;>exact tail0 rfl
  ·walk_at "rl"
   rw[e]
   walk_at "rl"
   exact q0 (by cases t<;>first|rfl|exact absurd rfl (hn' _))
theorem AF(h:xm ds U Qd):lA ‹Qd› (aS ["",""] ds) U:=by
 obtain⟨t,m,rfl,hs,q⟩:=h
 unfold lA
 walk_at "rt"
 refine⟨t,m,12,rfl,⋯,hs,fun Y h=>?_⟩
 have q':=q Y h
 unfold okN at q'
 walk_at "rt"
 generalize cnt m 12 t=c at q'
 by_cases c1:0<c
 ·rw[decide_eq_true (by omega:(0:Int)<(c:Int))]
  rw[decide_eq_true c1,Bool.true_and] at q'
  simp only[↓reduceIte]
  have:decide ((c:Int)<=60)=decide (c<=60):=by rw[Bool.eq_iff_iff,decide_eq_true_eq,decide_eq_true_eq];omega
  rw[this]
  exact q'
 ·rw[decide_eq_false (by omega:¬ (0:Int)<(c:Int))]
  rw[decide_eq_false c1,Bool.false_and] at q'
  exact q'
theorem zl(h:EY ds U Qd):j9 ‹Qd› (aS [""] ds) U:=by
 obtain⟨a,rfl,hb,q⟩:=h
 unfold j9
 walk_at "rt"
 refine⟨⟨⋯,⋯,⋯⟩,a,8,rfl,⋯,⋯,hb,fun r ac r0 r1 s1=>?_⟩
 have e6:(10:Int) ^ Int.toNat 6=1000000:=by decide
 rw[e6]
 obtain⟨_,e1,w,rfl,w0,w1⟩:=pick (P:=fun v=>∃w:Int,v = .int w/\1<=w/\w<=1000000) (xs:=[.int 2,.int 3,.int 5,.int 3,.int 2,.int 9,.int 4,.int 1000000]) r0 (by exact r1) (by
  intro v hv
  simp only[mem_cons,not_mem_nil,or_false] at hv
  rcases hv with rfl|rfl|rfl|rfl|rfl|rfl|rfl|rfl<;>exact⟨_,rfl,⋯,⋯⟩)
 walk_at "rt"
 rw[e1]
 refine⟨a,w,rfl,∅,∅,s1.1,fun u ad u0 u1 s2=>?_⟩
 walk_at "rt"
 exact q _ ad ∅ ∅ (s1.trans s2)
end
inductive IsP(m:Int):Nat->Nat->PyData->Prop
 |kind (i:Int):0<=i->i<m->IsP m 1 1 (.tuple [.str "kind",.int i])
 |turn {d c:Nat} {t:PyData}:IsP m d c t->IsP m (d+1) (c+1) (.tuple [.str "turn",t])
 |grid {d c:Nat} {t:PyData} (u v:Int):1<=u->1<=v->u<=1000000->v<=1000000->IsP m d c t->IsP m (d+1) (c+1) (.tuple [.str "grid",.int u,.int v,t])
 |upon {d:Nat} (es:List (Nat×Nat×PyData)):2<=es.length->es.length<=8->(∀e∈es,e.1<=d)->(∀e∈es,IsP m e.1 e.2.1 e.2.2)->IsP m (d+1) ((es.map (·.2.1)).sum+1) (.tuple [.str "upon",.tuple (es.map (·.2.2))])
 |beside {d:Nat} (es:List (Nat×Nat×PyData)):2<=es.length->es.length<=8->(∀e∈es,e.1<=d)->(∀e∈es,IsP m e.1 e.2.1 e.2.2)->IsP m (d+1) ((es.map (·.2.1)).sum+1) (.tuple [.str "beside",.tuple (es.map (·.2.2))])
structure Lt(n:Nat)(t:PyData):Prop where
 lay:t.canLay0=true
 dep:t.depth<=n
theorem Lt.sh{n:Nat}{t:PyData}(h:Lt n t)(hn:n<=60):Sh t:=⟨h.lay,le_trans h.dep hn⟩
theorem Lt.mono{n k:Nat}{t:PyData}(h:Lt n t)(hn:n<=k):Lt k t:=⟨h.lay,le_trans h.dep hn⟩
theorem Ov{xs:List PyData}(h:∀x∈xs,x.canLay0=true):PyData.canLayAll0 xs=true:=by
 induction xs with
 |nil=>rfl
 |cons x r ih=>rw[PyData.canLayAll0,h x (by simp),ih (fun y hy=>h y (by simp[hy]))];rfl
theorem Hl{xs:List PyData}{n:Nat}(h:∀x∈xs,x.depth<=n):PyData.depthAll xs<=n:=by
 induction xs with
 |nil=>exact zero_le _
 |cons x r ih=>
  rw[PyData.depthAll]
  have h1:=h x (by simp)
  have h2:=ih (fun y hy=>h y (by simp[hy]))
  omega
theorem ia{xs:List PyData}{n:Nat}(h:∀x∈xs,Lt n x):Lt (n+1) (.tuple xs):=
 ⟨by rw[PyData.canLay0];exact Ov fun x hx=>(h x hx).lay,by rw[PyData.depth];have:=Hl (n:=n) fun x hx=>(h x hx).dep;omega⟩
theorem Nf{xs:List PyData}{n:Nat}(h:∀x∈xs,Lt n x):Lt (n+1) (.list xs):=
 ⟨by rw[PyData.canLay0];exact Ov fun x hx=>(h x hx).lay,by rw[PyData.depth];have:=Hl (n:=n) fun x hx=>(h x hx).dep;omega⟩
theorem lt_int{n:Nat}{i:Int}:Lt n (.int i):=⟨rfl,zero_le _⟩
theorem lt_bool{n:Nat}{i:Bool}:Lt n (.bool i):=⟨rfl,zero_le _⟩
theorem J0{n:Nat}:Lt n (.str "kind"):=⟨nofun,zero_le _⟩
theorem Pn{n:Nat}:Lt n (.str "turn"):=⟨nofun,zero_le _⟩
theorem YH{n:Nat}:Lt n (.str "Turn"):=⟨nofun,zero_le _⟩
theorem JJ{n:Nat}:Lt n (.str "grid"):=⟨nofun,zero_le _⟩
theorem Kk{n:Nat}:Lt n (.str "upon"):=⟨nofun,zero_le _⟩
theorem L7{n:Nat}:Lt n (.str "beside"):=⟨nofun,zero_le _⟩
theorem all2{P:PyData->Prop}{a b:PyData}(ha:P a)(hb:P b):∀x∈[a,b],P x:=fun x hx=>by
 simp only[mem_cons,not_mem_nil,or_false] at hx
 rcases hx with rfl|rfl<;>assumption
theorem all1{P:PyData->Prop}{a:PyData}(ha:P a):∀x∈[a],P x:=fun x hx=>by rw[List.mem_singleton.mp hx];exact ha
theorem Tc{P:PyData->Prop}{a b c:PyData}(ha:P a)(hb:P b)(hc:P c):∀x∈[a,b,c],P x:=fun x hx=>by
 simp only[mem_cons,not_mem_nil,or_false] at hx
 rcases hx with rfl|rfl|rfl<;>assumption
theorem RT{P:PyData->Prop}{a b c d:PyData}(ha:P a)(hb:P b)(hc:P c)(hd:P d):∀x∈[a,b,c,d],P x:=fun x hx=>by
 simp only[mem_cons,not_mem_nil,or_false] at hx
 rcases hx with rfl|rfl|rfl|rfl<;>assumption
theorem IsP.pos{m:Int}{d c:Nat}{t:PyData}(h:IsP m d c t):1<=d/\1<=c:=by cases h<;>exact⟨∅,∅⟩
theorem IsP.lt{m:Int}{d c:Nat}{t:PyData}(h:IsP m d c t):Lt (2*d) t:=by
 induction h with
 |kind i h0 h1=>exact (ia (n:=0) (all2 J0 lt_int)).mono ∅
 |turn _ ih=>exact (ia (all2 Pn ih)).mono ∅
 |grid u v _ _ _ _ _ ih=>exact (ia (RT JJ lt_int lt_int ih)).mono ∅
 |@upon d es _ _ hd _ ih=>exact (ia (all2 Kk (ia (n:=2*d) fun x hx=>by obtain⟨e,he,rfl⟩:=List.mem_map.mp hx;exact (ih e he).mono (by have:=hd e he;omega)))).mono ∅
 |@beside d es _ _ hd _ ih=>exact (ia (all2 L7 (ia (n:=2*d) fun x hx=>by obtain⟨e,he,rfl⟩:=List.mem_map.mp hx;exact (ih e he).mono (by have:=hd e he;omega)))).mono ∅
theorem pR{m:Int}{w:Str}{xs:List PyData}(hw:w = "upon"\/w = "beside")(h2:2<=xs.length)(h8:xs.length<=8):oD m (.tuple [.str w,.tuple xs])=some xs:=by
 rcases hw with rfl|rfl
 ·show eN m (.str "upon") (.tuple xs)=_
  rw[Om]
  show (if 2<=xs.length/\xs.length<=8 then some xs else none)=some xs
  rw[if_pos ⟨h2,h8⟩]
 ·show eN m (.str "beside") (.tuple xs)=_
  rw[Hs]
  show (if 2<=xs.length/\xs.length<=8 then some xs else none)=some xs
  rw[if_pos ⟨h2,h8⟩]
theorem AX{m:Int}{n:Nat}{t:PyData}{es:List (Nat×Nat×PyData)}(hf:oD m t=some (es.map (·.2.2)))(h:∀e∈es,cnt m n e.2.2=e.2.1/\1<=e.2.1):cnt m (n+1) t=(es.map (·.2.1)).sum+1:=by
 have e1:(es.map (·.2.2)).map (cnt m n)=es.map (·.2.1):=by rw[map_map];exact List.map_congr_left fun e he=>(h e he).1
 rw[vQ hf,e1,if_pos,Nat.add_comm]
 rw[all_eq_true]
 intro x hx
 obtain⟨e,he,rfl⟩:=List.mem_map.mp hx
 exact decide_eq_true (h e he).2
theorem IsP.cnt{m:Int}{d c:Nat}{t:PyData}(h:IsP m d c t):∀n,d<=n->cnt m n t=c:=by
 induction h with
 |kind i h0 h1=>
  intro n hn
  obtain⟨k,rfl⟩:∃k,n=k+1:=⟨n-1,∅⟩
  have hf:oD m (.tuple [.str "kind",.int i])=some []:=by
   show eN m (.str "kind") (.int i)=_
   unfold eN
   rw[if_pos Wi,if_pos]
   show (true&&(decide (0<=i)&&decide (i<m)))=true
   rw[decide_eq_true h0,decide_eq_true h1];rfl
  rw[vQ hf];rfl
 |@turn d c t hh ih=>
  intro n hn
  obtain⟨k,rfl⟩:∃k,n=k+1:=⟨n-1,∅⟩
  have hf:oD m (.tuple [.str "turn",t])=some [t]:=by
   show eN m (.str "turn") t=_
   unfold eN
   rw[if_neg (by rw[SO];decide),if_pos TM]
  have:=AX (n:=k) (es:=[(d,c,t)]) hf fun e he=>by rw[List.mem_singleton.mp he];exact⟨ih k ∅,hh.pos.2⟩
  exact this
 |@grid d c t u v hu hv _ _ hh ih=>
  intro n hn
  obtain⟨k,rfl⟩:∃k,n=k+1:=⟨n-1,∅⟩
  have hf:oD m (.tuple [.str "grid",.int u,.int v,t])=some [t]:=by
   show qV (.str "grid") (.int u) (.int v) t=_
   unfold qV
   rw[if_pos Qm,if_pos]
   show ((true&&decide (1<=u))&&(true&&decide (1<=v)))=true
   rw[decide_eq_true hu,decide_eq_true hv];rfl
  have:=AX (n:=k) (es:=[(d,c,t)]) hf fun e he=>by rw[List.mem_singleton.mp he];exact⟨ih k ∅,hh.pos.2⟩
  exact this
 |upon es h2 h8 hd hh ih=>
  intro n hn
  obtain⟨k,rfl⟩:∃k,n=k+1:=⟨n-1,∅⟩
  exact AX (pR (.inl rfl) (by simpa using h2) (by simpa using h8)) fun e he=>⟨ih e he k (by have:=hd e he;omega),(hh e he).pos.2⟩
 |beside es h2 h8 hd hh ih=>
  intro n hn
  obtain⟨k,rfl⟩:∃k,n=k+1:=⟨n-1,∅⟩
  exact AX (pR (.inr rfl) (by simpa using h2) (by simpa using h8)) fun e he=>⟨ih e he k (by have:=hd e he;omega),(hh e he).pos.2⟩
noncomputable def kx(a:Addr)(U Y:Mu):Prop:=Bag Y a/\∀b,b≠a->∀ds,U b=some ds->Y b=some ds
theorem kx.trans{a:Addr}{U ac ad:Mu}(h:kx a U ac)(g:kx a ac ad):kx a U ad:=⟨g.1,fun b n ds e=>g.2 b n ds (h.2 b n ds e)⟩
theorem Step.w{a:Addr}{U Y:Mu}(h:Step a U Y):kx a U Y:=⟨h.1,fun b n ds e=>by rw[h.2 b n];exact e⟩
theorem kx.of{a:Addr}{U Y:Mu}(hb:Bag U a)(h:∀b ds,U b=some ds->Y b=some ds):kx a U Y:=⟨by obtain⟨g,m,e,z⟩:=hb;exact⟨g,m,h _ _ e,z⟩,fun b _ ds e=>h b ds e⟩
noncomputable def sI:DSp:=fun ds U Q=>∃(xs:List PyData) (i:Int) (y:PyData),ds=[.v (.tuple xs),.v (.int i),.v y]/\xs.length<=100/\∀zs,(∀z∈zs,z∈xs\/z=y)->Q (.v (.tuple zs)) U
theorem GB{U:Mu}{Q:DK}{ds:List D}(h:sI ds U Q):ds.length=3:=by obtain⟨_,_,_,rfl,_⟩:=h;rfl
noncomputable def hE(n:Nat):DSp:=fun ds U Q=>∃(a:Addr) (t:PyData) (m:Int) (d c:Nat),ds=[.m a,.v t,.v (.int m)]/\Bag U a/\IsP m d c t/\d<=n/\∀x Y,Lt (2*n+6) x->Step a U Y->Q (.v x) Y
theorem Ki{n:Nat}{U:Mu}{Q:DK}{ds:List D}(h:hE n ds U Q):ds.length=3:=by obtain⟨_,_,_,_,_,rfl,_⟩:=h;rfl
theorem JY{U:Mu}{Q:DK}{ds:List D}(h:hE 0 ds U Q):False:=by obtain⟨_,_,_,_,_,_,_,h1,h2,_⟩:=h;have:=h1.pos;omega
noncomputable def Dt:DSp:=fun ds U Q=>∃(a:Addr) (m:Int),ds=[.m a,.v (.int m)]/\1<=m/\m<=3/\Bag U a/\∀d c t Y,IsP m d c t->d<=12->c<=60->kx a U Y->Q (.v t) Y
theorem JR{U:Mu}{Q:DK}{ds:List D}(h:Dt ds U Q):ds.length=2:=by obtain⟨_,_,rfl,_⟩:=h;rfl
noncomputable def oo:DTS:=
 (bM (dOp ij (dOp ij (dSl (ag 0) lu (tL (ag 1))) (bj (ae (ag 2) ai))) (dSl (ag 0) (tL (dOp ij (ag 1) (dC (.int 1)))) lu)))
noncomputable def fP:DTS:=
 (aY (bJ (ff (ae (bj (ae (dC (.str "kind")) (ae (ag 2) ai))) (ae (bj (ae (dC (.str "kind")) (ae (Cc (dC (.int 1))) ai))) (ae (bj (ae (dC (.str "kind")) (ae (dC (.bool true)) ai))) (ae (bj (ae (dC (.str "kind")) ai)) (ae (bj (ae (dC (.str "kind")) (ae (dC (.int 0)) (ae (dC (.int 0)) ai)))) (ae (ff (ae (dC (.str "kind")) (ae (dC (.int 0)) ai))) (ae (bj (ae (dC (.str "kind")) (ae (ag 3) ai))) (ae (ag 3) (ae (bj (ae (dC (.str "turn")) (ae (ag 1) (ae (ag 1) ai)))) (ae (bj (ae (dC (.str "upon")) (ae (bj (ae (ag 1) ai)) ai))) (ae (bj (ae (dC (.str "beside")) (ae (dOp D7 (bj (ae (bj (ae (dC (.str "kind")) (ae (dC (.int 0)) ai))) ai)) (dC (.int 9))) ai))) (ae (bj (ae (dC (.str "upon")) (ae (ff (ae (ag 1) (ae (ag 1) ai))) ai))) (ae (bj (ae (dC (.str "beside")) (ae (bj ai) ai))) (ae (bj (ae (dC (.str "turn")) (ae (ag 1) ai))) (ae (bj (ae (dC (.str "grid")) (ae (dC (.int 0)) (ae (dC (.int 1)) (ae (ag 1) ai))))) (ae (bj (ae (dC (.str "grid")) (ae (dC (.int 2)) (ae (ag 3) (ae (ag 1) ai))))) (ae (bj (ae (dC (.str "grid")) (ae (dC (.bool true)) (ae (dC (.int 1)) (ae (ag 1) ai))))) (ae (bj (ae (dC (.str "grid")) (ae (dC (.int 1)) (ae (ag 1) ai)))) (ae (bj (ae (dC (.str "grid")) (ae (dC (.int 1)) (ae (dC (.int 1)) (ae (dC (.int 1)) (ae (ag 1) ai)))))) (ae (bj (ae (dC (.str "Turn")) (ae (ag 1) ai))) (ae (bj (ae (dC (.str "upon")) (ae (ag 1) (ae (ag 1) ai)))) (ae (bj (ae (dC (.str "upon")) (ae (bj (ae (ag 1) (ae (ag 1) ai))) ai))) (ae (dOp ij (ag 1) (bj (ae (ag 3) ai))) (ae (dCB oV (ae (ag 1) ai)) (ae (dOp ij (bj (ae (ag 3) ai)) (dSl (ag 1) (tL (dC (.int 1))) lu)) (ae (bj (ae (dC (.str "beside")) (ae (bj (ae (ag 1) (ae (ag 3) ai))) ai))) ai))))))))))))))))))))))))))) (ar 6))
 (bM (dOp aI (ag 6) (aB bX (ae (ag 0) (ae (dC (.int 26)) ai))))))
noncomputable def lB(n:Nat):DTS:=
 (aY (bJ (aB Hu (ae (ag 0) ai)) (ar 3))
 (aY (bJ (aB bX (ae (ag 0) (ae (dC (.int 10)) ai))) (ar 4))
 (aY (cZ (lL (dB (dOp (cW true) (dOp aI (ag 1) (dC (.int 0))) (dC (.str "kind")))) (dB (dOp rLt (ag 4) (dC (.int 6))))) (aY (cZ (dB (dOp (OZ false) (dOp aI (ag 1) (dC (.int 0))) (ff (ae (dC (.str "upon")) (ae (dC (.str "beside")) ai))))) (aY (bJ (aB bX (ae (ag 0) (ae (dCB cI (ae (dOp aI (ag 1) (dC (.int 1))) ai)) ai))) (ar 5))
 (bM (bj (ae (dOp aI (ag 1) (dC (.int 0))) (ae (aB sI (ae (dOp aI (ag 1) (dC (.int 1))) (ae (ag 5) (ae (aB (hE n) (ae (ag 0) (ae (dOp aI (dOp aI (ag 1) (dC (.int 1))) (ag 5)) (ae (ag 2) ai)))) ai)))) ai))))) cg)
 (bM (dOp ij (dSl (ag 1) lu (tL (Cc (dC (.int 1))))) (bj (ae (aB (hE n) (ae (ag 0) (ae (dOp aI (ag 1) (Cc (dC (.int 1)))) (ae (ag 2) ai)))) ai))))) cg)
 (fP))))
section
variable {U:Mu}{Qd:DK}{ds:List D}
theorem IL{xs:List PyData}{lo hi:Option Int}:∀x∈oR xs lo hi,x∈xs:=fun x hx=>by
 unfold oR at hx
 exact List.mem_of_mem_drop (List.mem_of_mem_take hx)
theorem MC{xs:List PyData}{lo hi:Option Int}:(oR xs lo hi).length<=xs.length:=by
 unfold oR
 rw[length_take,List.length_drop];omega
theorem Dl(h:sI ds U Qd):oo ‹Qd› (aS ["","",""] ds) U:=by
 obtain⟨xs,i,y,rfl,hl,q⟩:=h
 unfold oo
 walk_at "rt"
 have l1:=MC (xs:=xs) (lo:=none) (hi:=some i)
 have l2:=MC (xs:=xs) (lo:=some (i+1)) (hi:=none)
 refine⟨by first|omega|(simp;omega),by first|omega|(simp;omega),q _ fun z hz=>?_⟩
 rcases List.mem_append.mp hz with w|w
 ·rcases List.mem_append.mp w with w|w
  ·exact .inl (IL z w)
  ·exact .inr (List.mem_singleton.mp w)
 ·exact .inl (IL z w)
theorem Ve:∀x∈rD,Lt 2 x:=by
 have h:∀x∈rD,x.canLay0=true/\x.depth<=2:=nofun
 exact fun x hx=>⟨(h x hx).1,(h x hx).2⟩
theorem XD{xs:List PyData}{n:Nat}(h:Lt n (.tuple xs)):∀x∈xs,Lt n x:=fun x hx=>
 ⟨HZ (by have:=h.lay;rw[PyData.canLay0] at this;exact this) x hx,by have:=h.dep;rw[PyData.depth] at this;exact BD (n:=n) ∅ x hx⟩
theorem YM{P:PyData->Prop}{a b c d e:PyData}(ha:P a)(hb:P b)(hc:P c)(hd:P d)(he:P e):∀x∈[a,b,c,d,e],P x:=fun x hx=>by
 simp only[mem_cons,not_mem_nil,or_false] at hx
 rcases hx with rfl|rfl|rfl|rfl|rfl<;>assumption
theorem Pq{a:Addr}{ys:List PyData}{m:Int}{o:PyData}{k:Nat}{r4 r5 r6:Option D}{Dd:wV}(hb:Bag U a)(ht:Lt k (.tuple ys))(hy:ys.length<=10)(ho:Lt 2 o)
  (q:∀x Y,Lt (k+5) x->Step a U Y->Dd.rt (.v x) Y):fP Dd [some (.m a),some (.v (.tuple ys)),some (.v (.int m)),some (.v o),r4,r5,r6] U:=by
 unfold fP
 walk_at "rt"
 have lc:=MC (xs:=ys) (lo:=some 1) (hi:=none)
 refine⟨⟨⋯,⋯,by simp,⋯⟩,∅,∅,a,26,rfl,⋯,⋯,hb,fun r ac r0 r1 s1=>?_⟩
 have hm:=XD ht
 have ho':∀{n:Nat},2<=n->Lt n o:=fun h=>ho.mono h
 have T:∀{xs:List PyData},(∀x∈xs,Lt (k+2) x)->Lt (k+5) (.tuple xs):=fun h=>(ia h).mono ∅
 have t2:Lt (k+2) (.tuple ys):=ht.mono ∅
 have t3:Lt (k+3) (.tuple ys):=ht.mono ∅
 have T4:∀{xs:List PyData},(∀x∈xs,Lt (k+4) x)->Lt (k+5) (.tuple xs):=fun h=>ia h
 obtain⟨_,e1,w⟩:=pick (P:=fun v=>Lt (k+5) v) (xs:=[PyData.tuple [.str "kind",.int m],.tuple [.str "kind",.int (-1)],.tuple [.str "kind",.bool true],.tuple [.str "kind"],.tuple [.str "kind",.int 0,.int 0],.list [.str "kind",.int 0],.tuple [.str "kind",o],o,.tuple [.str "turn",.tuple ys,.tuple ys],.tuple [.str "upon",.tuple [.tuple ys]],.tuple [.str "beside",.tuple (List.replicate (Int.toNat 9) [PyData.tuple [.str "kind",.int 0]]).flatten],.tuple [.str "upon",.list [.tuple ys,.tuple ys]],.tuple [.str "beside",.tuple []],.tuple [.str "turn",.tuple ys],.tuple [.str "grid",.int 0,.int 1,.tuple ys],.tuple [.str "grid",.int 2,o,.tuple ys],.tuple [.str "grid",.bool true,.int 1,.tuple ys],.tuple [.str "grid",.int 1,.tuple ys],.tuple [.str "grid",.int 1,.int 1,.int 1,.tuple ys],.tuple [.str "Turn",.tuple ys],.tuple [.str "upon",.tuple ys,.tuple ys],.tuple [.str "upon",.tuple [.tuple ys,.tuple ys]],.tuple (ys++[o]),.list ys,.tuple (o::oR ys (some 1) none),.tuple [.str "beside",.tuple [.tuple ys,o]]]) r0 (by exact r1) (by
  refine bE ?_ <| bE ?_ <| bE ?_ <| bE ?_ <| bE ?_ <| bE ?_ <| bE ?_ <| bE ?_ <| bE ?_ <| bE ?_ <| bE ?_ <| bE ?_ <| bE ?_ <| bE ?_ <| bE ?_ <| bE ?_ <| bE ?_ <| bE ?_ <| bE ?_ <| bE ?_ <| bE ?_ <| bE ?_ <| bE ?_ <| bE ?_ <| bE ?_ <| bE ?_ <| Er
  ·exact T (all2 J0 lt_int)
  ·exact T (all2 J0 lt_int)
  ·exact T (all2 J0 lt_bool)
  ·exact T (all1 J0)
  ·exact T (Tc J0 lt_int lt_int)
  ·exact (Nf (n:=0) (all2 J0 lt_int)).mono ∅
  ·exact T (all2 J0 (ho' ∅))
  ·exact ho' ∅
  ·exact T (Tc Pn t2 t2)
  ·exact T4 (all2 Kk (ia (all1 t3)))
  ·exact T4 (all2 L7 (Lt.mono (n:=2) ⟨nofun,nofun⟩ ∅))
  ·exact T4 (all2 Kk (Nf (all2 t3 t3)))
  ·exact T4 (all2 L7 (ia fun x hx=>nomatch hx))
  ·exact T (all2 Pn t2)
  ·exact T (RT JJ lt_int lt_int t2)
  ·exact T (RT JJ lt_int (ho' ∅) t2)
  ·exact T (RT JJ lt_bool lt_int t2)
  ·exact T (Tc JJ lt_int t2)
  ·exact T (YM JJ lt_int lt_int lt_int t2)
  ·exact T (all2 YH t2)
  ·exact T (Tc Kk t2 t2)
  ·exact T4 (all2 Kk (ia (all2 t3 t3)))
  ·exact T fun x hx=>by
    rcases List.mem_append.mp hx with z|z
    ·exact (hm x z).mono ∅
    ·rw[List.mem_singleton.mp z];exact ho' ∅
  ·exact (Nf hm).mono ∅
  ·exact T fun x hx=>by
    rcases List.mem_cons.mp hx with z|z
    ·rw[z];exact ho' ∅
    ·exact (hm x (IL x z)).mono ∅
  ·exact T4 (all2 L7 (ia (all2 t3 (ho' ∅)))))
 walk_at "rt"
 rw[e1]
 exact q _ ac w s1
theorem G5{n:Nat}{a:Addr}{m:Int}{w:Str}{d':Nat}{es:List (Nat×Nat×PyData)}(hw:∀{k:Nat},Lt k (.str w))(h2:2<=es.length)(h8:es.length<=8)(he:∀e∈es,e.1<=d')(hh:∀e∈es,IsP m e.1 e.2.1 e.2.2)(hd:d'<=n)(hb:Bag U a)
  (q:∀x Y,Lt (2*(n+1)+6) x->Step a U Y->Qd (.v x) Y) :
  cI [.v (.tuple (es.map (·.2.2)))] U fun x ac=>bX [.m a,x] ac fun d ac=>aI (.v (.tuple (es.map (·.2.2)))) d ac fun x ac=>hE n [.m a,x,.v (.int m)] ac fun x ac=>sI [.v (.tuple (es.map (·.2.2))),d,x] ac fun x ac=>
   match Option.map (fun x=>PyData.str w::x) (fh [x]) with
   |some xs=>Qd (.v (.tuple xs)) ac
   |none=>False:=by
 walk_at "rt"
 have hl:(es.map (·.2.2)).length=es.length:=length_map _
 refine⟨a,_,rfl,by rw[hl];omega,by rw[hl];omega,hb,fun i ac i0 i1 s1=>?_⟩
 have hin:∀v∈es.map (·.2.2),∃e∈es,v=e.2.2:=fun v hv=>by obtain⟨e,h,rfl⟩:=List.mem_map.mp hv;exact⟨e,h,rfl⟩
 obtain⟨_,e1,e,hee,rfl⟩:=pick (P:=fun v=>∃e∈es,v=e.2.2) (xs:=es.map (·.2.2)) i0 i1 hin
 walk_at "rt"
 rw[e1]
 have:=he e hee
 refine⟨a,_,m,e.1,e.2.1,rfl,s1.1,hh e hee,∅,fun x ad hx s2=>?_⟩
 refine⟨_,i,x,rfl,by rw[hl];omega,fun zs hz=>?_⟩
 walk_at "rt"
 refine q _ ad ?_ (s1.trans s2)
 have hz':∀z∈zs,Lt (2*n+6) z:=fun z hzz=>by
  rcases hz z hzz with w'|w'
  ·obtain⟨e',h',rfl⟩:=hin z w'
   exact (hh e' h').lt.mono (by have:=he e' h';omega)
  ·rw[w'];exact hx
 exact (ia (all2 hw (ia hz'))).mono ∅
theorem zK(n:Nat)(h:hE (n+1) ds U Qd):lB n ‹Qd› (aS ["","","","","","",""] ds) U:=by
 obtain⟨a,t,m,d,c,rfl,hb,hp,hd,q⟩:=h
 have hl:=hp.lt
 unfold lB
 walk_at "rl"
 refine⟨a,rfl,hb,fun o ac ho s1=>?_⟩
 have lo:=Ve o ho
 walk_at "rl"
 refine⟨a,10,rfl,⋯,⋯,s1.1,fun w ad w0 w1 s2=>?_⟩
 walk_at "rl"
 have s12:=s1.trans s2
 have tail:∀(ys:List PyData) (r5 r6:Option D),t = .tuple ys->ys.length<=10->fP ‹Qd› [some (.m a),some (.v (.tuple ys)),some (.v (.int m)),some (.v o),some (.v (.int w)),r5,r6] ad:=fun ys r5 r6 e hy=>by
  subst e
  exact Pq s2.1 hl hy lo fun x Y hx s=>q x Y (hx.mono ∅) (s12.trans s)
 cases hp with
 |kind i i0 i1=>
  walk_at "rl"
  exact tail _ _ _ rfl (by simp)
 |@turn d' c' t' hh=>
  walk_at "rl"
  by_cases c6:w<6
  ·rw[tH (by simpa using c6)]
   walk_at "rl"
   refine⟨HQ,(Pn (n:=60)).lay,(Pn (n:=60)).dep,?_⟩
   have eany:([PyData.str "upon",.str "beside"].any fun b=>PyData.eqv b (.str "turn"))=false:=by simp only[any_cons,any_nil,tF,WK,WC,Bool.or_false]
   rw[eany]
   walk_at "rl"
   show hE n [.m a,.v t',.v (.int m)] ad _
   refine⟨a,t',m,d',c',rfl,s2.1,hh,∅,fun x ap hx s3=>?_⟩
   walk_at "rl"
   refine⟨by show 1+1<=1000;decide,q _ ap ?_ (s12.trans s3)⟩
   show Lt (2*(n+1)+6) (.tuple [.str "turn",x])
   exact (ia (all2 Pn hx)).mono ∅
  ·rw[rB (by simpa using c6)]
   walk_at "rl"
   exact tail _ _ _ rfl (by simp)
 |@grid d' c' t' u v hu hv _ _ hh=>
  walk_at "rl"
  by_cases c6:w<6
  ·rw[tH (by simpa using c6)]
   walk_at "rl"
   refine⟨HQ,(JJ (n:=60)).lay,(JJ (n:=60)).dep,?_⟩
   have eany:([PyData.str "upon",.str "beside"].any fun b=>PyData.eqv b (.str "grid"))=false:=by simp only[any_cons,any_nil,tF,V9,V1,Bool.or_false]
   rw[eany]
   walk_at "rl"
   show hE n [.m a,.v t',.v (.int m)] ad _
   refine⟨a,t',m,d',c',rfl,s2.1,hh,∅,fun x ap hx s3=>?_⟩
   walk_at "rl"
   refine⟨by show 3+1<=1000;decide,q _ ap ?_ (s12.trans s3)⟩
   show Lt (2*(n+1)+6) (.tuple [.str "grid",.int u,.int v,x])
   exact (ia (RT JJ lt_int lt_int hx)).mono ∅
  ·rw[rB (by simpa using c6)]
   walk_at "rl"
   exact tail _ _ _ rfl (by simp)
 |@upon d' es h2 h8 he hh=>
  walk_at "rl"
  by_cases c6:w<6
  ·rw[tH (by simpa using c6)]
   walk_at "rl"
   refine⟨HQ,(Kk (n:=60)).lay,(Kk (n:=60)).dep,?_⟩
   have eany:([PyData.str "upon",.str "beside"].any fun b=>PyData.eqv b (.str "upon"))=true:=by simp only[any_cons,any_nil,tF,WB,Bool.true_or]
   rw[eany]
   walk_at "rl"
   exact G5 (w:="upon") Kk h2 h8 he hh ∅ s2.1 fun x ap hx s3=>q x ap hx (s12.trans s3)
  ·rw[rB (by simpa using c6)]
   walk_at "rl"
   exact tail _ _ _ rfl (by simp)
 |@beside d' es h2 h8 he hh=>
  walk_at "rl"
  by_cases c6:w<6
  ·rw[tH (by simpa using c6)]
   walk_at "rl"
   refine⟨HQ,(L7 (n:=60)).lay,(L7 (n:=60)).dep,?_⟩
   have eany:([PyData.str "upon",.str "beside"].any fun b=>PyData.eqv b (.str "beside"))=true:=by simp only[any_cons,any_nil,tF,WH,Xy,Bool.false_or,Bool.true_or]
   rw[eany]
   walk_at "rl"
   exact G5 (w:="beside") L7 h2 h8 he hh ∅ s2.1 fun x ap hx s3=>q x ap hx (s12.trans s3)
  ·rw[rB (by simpa using c6)]
   walk_at "rl"
   exact tail _ _ _ rfl (by simp)
end
abbrev E3:=Nat×Nat×PyData
def qm(e:E3):PyData:=.tuple [.int (e.1:Nat),.int (e.2.1:Nat),e.2.2]
noncomputable def Gd(m:Int)(e:E3):Prop:=IsP m e.1 e.2.1 e.2.2/\e.1<=12/\e.2.1<=60
structure Pl(a l:Addr)(m:Int)(im U:Mu)(es:List E3):Prop where
 ne:l≠a
 bag:Bag U a
 at_:U l=some (es.map qm)
 gd:∀e∈es,Gd m e
 kept:∀b,b≠a->b≠l->∀ds,im b=some ds->U b=some ds
noncomputable def kA:DTS:=
 (aY (bJ (dCB qZ (ae (dJ [none,none,none] (gb (ag 11)) (iP 3 (bS (ar 0) (bS (ar 1) (bS (ar 2) i7)))) jb (ag 2)) ai)) (ar 12))
 (aY (bJ (dJ [none,none,none] (gb (ag 11)) (iP 3 (bS (ar 0) (bS (ar 1) (bS (ar 2) i7)))) jb (ag 1)) (ar 13))
 (aY (bJ (jB (dC (.int 1)) (dCB LP (ae (dJ [none,none,none] (gb (ag 11)) (iP 3 (bS (ar 0) (bS (ar 1) (bS (ar 2) i7)))) jb (ag 0)) ai))) (ar 14))
 (bJ (bj (ae (ag 14) (ae (jB (dC (.int 1)) (dCB DH (ae (ag 13) ai))) (ae (bj (ae (dOp aI (ff (ae (dC (.str "upon")) (ae (dC (.str "beside")) ai))) (CU (ag 8) (dC (.int 2)))) (ae (ag 12) ai))) ai)))) (ar 9)))))
noncomputable def qe:DTS:=
 (aY (bJ (dCB (K9 min) (ae (dCB cI (ae (ag 3) ai)) (ae (jB (dC (.int 1)) (aB bX (ae (ag 0) (ae (dOp aI (ff (ae (dC (.int 1)) (ae (dC (.int 1)) (ae (dC (.int 2)) (ae (dC (.int 7)) ai))))) (aB bX (ae (ag 0) (ae (dC (.int 4)) ai)))) ai)))) ai))) (ar 10))
 (aY (bJ (dOp ij (ff (ae (bj (ae (ag 5) (ae (ag 6) (ae (ag 7) ai)))) ai)) (dJ [none,some 3,some 0] (uB (ae (ag 10) ai)) (ar 0) jb (Bj (ag 1) (aB bX (ae (ag 2) (ae (dCB cI (ae (ag 1) ai)) ai)))))) (ar 11))
 (aY (cZ (dB (dOp (cW false) (dCB cI (ae (ag 11) ai)) (dC (.int 1)))) (bJ (dOp ij (ag 11) (ag 11)) (ar 11)) cg)
 (kA))))
noncomputable def ke:DTS:=
 (aY (cZ (qL (dB (dOp rGt (dOp aI (ag 9) (dC (.int 0))) (dC (.int 12)))) (dB (dOp rGt (dOp aI (ag 9) (dC (.int 1))) (dC (.int 60))))) (bM (ag 7)) cg)
 (aY (kN (MD (ag 3) (ag 9)))
 (cZ (lL (dB (dOp (cW false) (dCB cI (ae (ag 3) ai)) (dC (.int 1)))) (dB (dOp (cW false) (aB bX (ae (ag 0) (ae (dC (.int 3)) ai))) (dC (.int 0))))) (bM (dOp aI (ag 9) (dC (.int 2)))) cg)))
noncomputable def qj:DTS:=
 (aY (GR (uB (ae (dC (.int 30)) ai)) (ar 4) (aY (bJ (Bj (ag 3) (aB bX (ae (ag 0) (ae (dCB cI (ae (ag 3) ai)) ai)))) (iP 3 (bS (ar 5) (bS (ar 6) (bS (ar 7) i7)))))
 (aY (bJ (aB bX (ae (ag 0) (ae (dC (.int 6)) ai))) (ar 8))
 (aY (cZ (dB (dOp (cW false) (ag 8) (dC (.int 0)))) (bJ (bj (ae (jB (ag 5) (dC (.int 1))) (ae (jB (ag 6) (dC (.int 1))) (ae (bj (ae (dC (.str "turn")) (ae (ag 7) ai))) ai)))) (ar 9)) (cZ (dB (dOp (cW false) (ag 8) (dC (.int 1)))) (bJ (bj (ae (jB (ag 5) (dC (.int 1))) (ae (jB (ag 6) (dC (.int 1))) (ae (bj (ae (dC (.str "grid")) (ae (aB EY (ae (ag 0) ai)) (ae (aB EY (ae (ag 0) ai)) (ae (ag 7) ai))))) ai)))) (ar 9)) (qe)))
 (ke)))))
 (bM (dOp aI (dOp aI (ag 3) (dC (.int 0))) (dC (.int 2)))))
noncomputable def ve:DTS:=
 (aY (bJ (jB (dC (.int 1)) (aB bX (ae (ag 0) (ae (dOp aI (ff (ae (dC (.int 2)) (ae (dC (.int 4)) (ae (dC (.int 12)) ai)))) (aB bX (ae (ag 0) (ae (dC (.int 3)) ai)))) ai)))) (ar 2))
 (aY (bJ (Jl [none,some 0,some 1] (uB (ae (ag 2) ai)) (ar 0) jb (bj (ae (dC (.int 1)) (ae (dC (.int 1)) (ae (bj (ae (dC (.str "kind")) (ae (aB bX (ae (ag 1) (ae (ag 2) ai))) ai))) ai))))) (ar 3))
 (qj)))
section
variable {U im:Mu}{Qd:DK}{ds:List D}{a l:Addr}{m:Int}{es:List E3}{ρ:Rho}{i j:Nat}
theorem UX{d:D}(h:ρ[i]? = some (some d)):ag i ρ U Qd=Qd d U:=by unfold ag;rw[h]
theorem Q4{α β:Type}(f:α->β):∀(xs:List α) (i:Nat),(xs.map f).eraseIdx i=(xs.eraseIdx i).map f
 |[],_=>rfl
 |_::_,0=>rfl
 |x::r,i+1=>by simp only[map_cons,List.eraseIdx_cons_succ,Q4 f r i]
theorem Pl.step{Y:Mu}(h:Pl a l m im U es)(s:Step a U Y):Pl a l m im Y es:=⟨h.ne,s.1,by rw[s.2 l h.ne];exact h.at_,h.gd,fun b n1 n2 ds e=>by rw[s.2 b n1];exact h.kept b n1 n2 ds e⟩
theorem Bag.set{x:List PyData}(h:Bag U a)(n:l≠a):Bag (aR U l x) a:=by
 obtain⟨g,k,e,z⟩:=h
 exact⟨g,k,by rw[bR (Ne.symm n)];exact e,z⟩
theorem Pl.set{fs:List E3}(h:Pl a l m im U es)(g:∀e∈fs,Gd m e):Pl a l m im (aR U l (fs.map qm)) fs:=
 ⟨h.ne,h.bag.set h.ne,bP,g,fun b n1 n2 ds e=>by rw[bR n2];exact h.kept b n1 n2 ds e⟩
theorem Pl.off{p:Addr}{x:List PyData}(h:Pl a l m im U es)(pa:p≠a)(pl:p≠l)(p0:im p=none):Pl a l m im (aR U p x) es:=
 ⟨h.ne,h.bag.set pa,by rw[bR (Ne.symm pl)];exact h.at_,h.gd,fun b n1 n2 ds e=>by
  have hb:b≠p:=fun z=>by rw[z,p0] at e;cases e
  rw[bR hb];exact h.kept b n1 n2 ds e⟩
theorem Pl.del{p:Addr}(h:Pl a l m im U es)(pa:p≠a)(pl:p≠l)(p0:im p=none):Pl a l m im (j4 U p) es:=
 ⟨h.ne,by obtain⟨g,k,e,z⟩:=h.bag;exact⟨g,k,by rw[sF (Ne.symm pa)];exact e,z⟩,by rw[sF (Ne.symm pl)];exact h.at_,h.gd,fun b n1 n2 ds e=>by
  have hb:b≠p:=fun z=>by rw[z,p0] at e;cases e
  rw[sF hb];exact h.kept b n1 n2 ds e⟩
theorem Pl.fresh{p:Addr}(h:Pl a l m im U es)(hp:U p=none):p≠a/\p≠l/\im p=none:=by
 have h1:p≠a:=fun z=>by obtain⟨g,k,e,_⟩:=h.bag;rw[z,e] at hp;cases hp
 have h2:p≠l:=fun z=>by rw[z,h.at_] at hp;cases hp
 refine⟨h1,h2,?_⟩
 cases e:im p with
 |none=>rfl
 |some ds=>rw[h.kept p h1 h2 ds e] at hp;cases hp
theorem Pl.w(h:Pl a l m im U es)(hl:im l=none):kx a im U:=⟨h.bag,fun b n ds e=>h.kept b n (fun z=>by rw[z,hl] at e;cases e) ds e⟩
theorem NP(h:Pl a l m im U es)(h1:1<=es.length)(h2:es.length<=100)(hi:ρ[i]? = some (some (.m l)))(hj:ρ[j]? = some (some (.m a)))
  (q:∀(e:E3) (fs:List E3) (Y:Mu),Gd m e->fs.length+1=es.length->Pl a l m im Y fs->(∀b,b≠a->b≠l->Y b=U b)->Qd (.v (qm e)) Y) :
  Bj (ag i) (aB bX (ae (ag j) (ae (dCB cI (ae (ag i) ai)) ai))) ρ U Qd:=by
 simp only[N6,AY,gv,kf,Ke,UX hi,UX hj,Jt,h.at_,length_map]
 refine⟨a,_,rfl,∅,∅,h.bag,fun r ac r0 r1 s1=>?_⟩
 have h':=h.step s1
 simp only[h'.at_]
 obtain⟨k,rfl⟩:∃k:Nat,r=k:=⟨r.toNat,∅⟩
 have hk:k<es.length:=by omega
 refine⟨⟨∅,∅⟩,qm es[k],by simp[hk],?_⟩
 rw[Q4]
 have hs:=h'.set (fs:=es.eraseIdx k) fun e he=>h.gd e (List.mem_of_mem_eraseIdx he)
 refine q es[k] _ _ (h.gd _ (List.getElem_mem hk)) (by rw[List.length_eraseIdx_of_lt hk];omega) hs fun b n1 n2=>?_
 rw[bR n2,s1.2 b n1]
theorem YB{k:Nat}(h:Pl a l m im U es)(hk:k<=es.length)(h2:es.length<=100)(h3:ρ[3]? = some (some (.m l)))(h0:ρ[0]? = some (some (.m a)))(h10:ρ[10]? = some (some (.v (.int (k:Nat)))))
  (q:∀(gs fs:List E3) (Y:Mu),(∀e∈gs,Gd m e)->gs.length=k->fs.length<=es.length->Pl a l m im Y fs->Qd (.v (.list (gs.map qm))) Y) :
  dJ [none,some 3,some 0] (uB (ae (ag 10) ai)) (ar 0) jb (Bj (ag 1) (aB bX (ae (ag 2) (ae (dCB cI (ae (ag 1) ai)) ai)))) ρ U Qd:=by
 rw[rE]
 simp only[zQ,gv,kf,UX h10]
 refine⟨⟨∅,∅⟩,by rw[ET];omega,fun p hp=>?_⟩
 obtain⟨pa,pl,p0⟩:=h.fresh hp
 refine⟨fun i acc Y=>∃gs fs:List E3,acc=gs.map qm/\gs.length=i/\fs.length+i=es.length/\(∀e∈gs,Gd m e)/\Pl a l m im Y fs,⟨[],es,rfl,rfl,rfl,(fun _ z=>nomatch z),h.off pa pl p0⟩,?_,?_⟩
 ·rintro i x acc Y hx hacc ⟨gs,fs,rfl,hg,hf,gd,hP⟩
  obtain⟨rfl,hi⟩:=Qr hx
  simp only[eW,xh,wx,h3,h0,bind_some,bind_none,join_some,set_cons_zero,wd,↓reduceIte,Ck,Es,CL,true_and,and_true]
  refine NP hP ∅ ∅ rfl rfl fun e fs' ac he hl P1 kp=>?_
  refine⟨by rw[kp p pa pl];exact hacc,gs++[e],fs',by simp,by simp[hg],∅,fun e' he'=>?_,P1.off pa pl p0⟩
  rcases List.mem_append.mp he' with z|z
  ·exact gd e' z
  ·rw[List.mem_singleton.mp z];exact he
 ·rintro acc Y ⟨gs,fs,rfl,hg,hf,gd,hP⟩ hacc
  rw[ET] at hg hf
  exact q gs fs _ gd ∅ ∅ (hP.del pa pl p0)
theorem QE{k:Nat}{f:E3->PyData}{te:DTE}(hs:∀Q,te ρ U Q=Q (.v (.list (es.map qm))) U)(hl:es.length<=100)(hf:∀(e:E3) (Y:Mu) (Q:DK),ag k [some (.v (.int (e.1:Nat))),some (.v (.int (e.2.1:Nat))),some (.v e.2.2)] Y Q=Q (.v (f e)) Y)
  (q:Qd (.v (.list (es.map f))) U):dJ [none,none,none] (gb te) (iP 3 (bS (ar 0) (bS (ar 1) (bS (ar 2) i7)))) jb (ag k) ρ U Qd:=by
 rw[rE,zT,hs]
 refine⟨by rw[length_map];omega,fun p hp=>⟨fun i acc Y=>acc=(es.take i).map f/\Y=aR U p acc,⟨by simp,rfl⟩,?_,?_⟩⟩
 ·rintro i x acc Y hx hacc ⟨rfl,rfl⟩
  rw[getElem?_map] at hx
  obtain⟨e,he,rfl⟩:∃e,es[i]? = some e/\qm e=x:=by
   cases z:es[i]? with
   |none=>rw[z] at hx;cases hx
   |some e=>rw[z] at hx;exact⟨e,rfl,by simpa using hx⟩
  unfold qm
  simp only[JM,Dq,H0,eW,xh,wx,bind_none,set_cons_zero,set_cons_succ,wd,↓reduceIte,Ck,CL,true_and,hf,length_cons,length_nil]
  refine⟨hacc,?_,?_⟩
  ·rw[take_succ,he];simp
  ·rw[pL]
 ·rintro acc Y ⟨rfl,rfl⟩ hacc
  rw[xo hp,length_map,take_length]
  exact q
theorem EA(es:List E3)(f:E3->Nat):dz (es.map fun e=>PyData.int (f e:Nat))=some (es.map fun e=>((f e:Nat):Int)):=by
 induction es with
 |nil=>rfl
 |cons c r ih=>simp only[map_cons,dz,ih,map_some]
theorem Sv(es:List E3):(es.map fun e=>((e.2.1:Nat):Int)).sum=(((es.map (·.2.1)).sum:Nat):Int):=by
 induction es with
 |nil=>rfl
 |cons c r ih=>simp only[map_cons,sum_cons,ih];omega
theorem Pd{r0 r1 r2 r3 r4 r5 r6 r7 r9 r10 r12 r13 r14:Option D}{Dd:wV}{w:Int}(h2:2<=es.length)(h8:es.length<=8)(gd:∀e∈es,Gd m e)
  (q:∀(e:E3) (s12 s13 s14:Option D),IsP m e.1 e.2.1 e.2.2->Dd.nx [r0,r1,r2,r3,r4,r5,r6,r7,some (.v (.int w)),some (.v (qm e)),r10,some (.v (.list (es.map qm))),s12,s13,s14] U) :
  kA Dd [r0,r1,r2,r3,r4,r5,r6,r7,some (.v (.int w)),r9,r10,some (.v (.list (es.map qm))),r12,r13,r14] U:=by
 unfold kA
 walk_at "rl"
 refine QE (f:=fun e=>e.2.2) (fun Q=>zN) ∅ (fun e Y Q=>A7) ?_
 walk_at "rl"
 refine QE (f:=fun e=>.int (e.2.1:Nat)) (fun Q=>zN) ∅ (fun e Y Q=>yJ) ?_
 walk_at "rl"
 refine QE (f:=fun e=>.int (e.1:Nat)) (fun Q=>zN) ∅ (fun e Y Q=>x6) ?_
 walk_at "rl"
 simp only[EA]
 refine⟨by rw[length_map];omega,fun M h1 hM=>?_⟩
 simp only[EA,Sv]
 refine⟨⋯,?_⟩
 obtain⟨e,he,rfl⟩:=List.mem_map.mp h1
 obtain⟨_,e1,ws,rfl,hws⟩:=pick (P:=fun v=>∃w:Str,v = .str w/\(w = "upon"\/w = "beside")) (xs:=[.str "upon",.str "beside"]) (i:=w.fmod 2) (Int.fmod_nonneg_of_pos _ ⋯) (Int.fmod_lt_of_pos _ ⋯) (by
  refine bE ?_ <| bE ?_ <| Er
  ·exact⟨_,rfl,.inl rfl⟩
  ·exact⟨_,rfl,.inr rfl⟩)
 rw[e1]
 walk_at "rl"
 have hd:∀x∈es,x.1<=e.1:=fun x hx=>by have:=hM (x.1:Int) (List.mem_map.mpr ⟨x,hx,rfl⟩);omega
 have hp:∀x∈es,IsP m x.1 x.2.1 x.2.2:=fun x hx=>(gd x hx).1
 have eA:(1:Int)+(e.1:Nat)=((e.1+1:Nat):Int):=by omega
 have eB:(1:Int)+((es.map (·.2.1)).sum:Nat)=(((es.map (·.2.1)).sum+1:Nat):Int):=by omega
 rcases hws with rfl|rfl
 ·have hN:=IsP.upon (d:=e.1) es h2 h8 hd hp
  have:=q (e.1+1,(es.map (·.2.1)).sum+1,_) (some (.v (.tuple (es.map fun e=>e.2.2)))) (some (.v (.list (es.map fun e=>PyData.int (e.2.1:Nat))))) (some (.v (.int ((e.1+1:Nat):Int)))) hN
  rw[eA,eB]
  exact this
 ·have hN:=IsP.beside (d:=e.1) es h2 h8 hd hp
  have:=q (e.1+1,(es.map (·.2.1)).sum+1,_) (some (.v (.tuple (es.map fun e=>e.2.2)))) (some (.v (.list (es.map fun e=>PyData.int (e.2.1:Nat))))) (some (.v (.int ((e.1+1:Nat):Int)))) hN
  rw[eA,eB]
  exact this
theorem Pm{r2 r4 r9 r10 r11 r12 r13 r14:Option D}{Dd:wV}{e0:E3}{w:Int}(h:Pl a l m im U es)(h2:es.length<=20)(g0:Gd m e0)
  (q:∀(e:E3) (fs:List E3) (Y:Mu) (s10 s11 s12 s13 s14:Option D),IsP m e.1 e.2.1 e.2.2->fs.length<=es.length->Pl a l m im Y fs->Dd.nx [some (.m a),some (.v (.int m)),r2,some (.m l),r4,some (.v (.int (e0.1:Nat))),some (.v (.int (e0.2.1:Nat))),some (.v e0.2.2),some (.v (.int w)),some (.v (qm e)),s10,s11,s12,s13,s14] Y) :
  qe Dd [some (.m a),some (.v (.int m)),r2,some (.m l),r4,some (.v (.int (e0.1:Nat))),some (.v (.int (e0.2.1:Nat))),some (.v e0.2.2),some (.v (.int w)),r9,r10,r11,r12,r13,r14] U:=by
 unfold qe
 walk_at "rl"
 simp only[h.at_,length_map]
 refine⟨a,4,rfl,⋯,⋯,h.bag,fun r ac r0 r1 s1=>?_⟩
 walk_at "rl"
 obtain⟨_,e1,n,rfl,n1,n7⟩:=pick (P:=fun v=>∃n:Int,v = .int n/\1<=n/\n<=7) (xs:=[.int 1,.int 1,.int 2,.int 7]) r0 (by exact r1) (by
  intro v hv
  simp only[mem_cons,not_mem_nil,or_false] at hv
  rcases hv with rfl|rfl|rfl|rfl<;>exact⟨_,rfl,⋯,⋯⟩)
 rw[e1]
 refine⟨a,n,rfl,n1,∅,s1.1,fun u ad u0 u1 s2=>?_⟩
 walk_at "rl"
 rw[length_map]
 have P2:=(h.step s1).step s2
 obtain⟨k,hk⟩:∃k:Nat,min (es.length:Int) (1+u)=k:=⟨(min (es.length:Int) (1+u)).toNat,∅⟩
 rw[hk]
 have hk7:k<=7/\k<=es.length:=by omega
 refine YB P2 hk7.2 ∅ rfl rfl rfl fun gs fs ap gg hg hf P3=>?_
 walk_at "rl"
 refine⟨by rw[length_map];omega,?_⟩
 have fin:∀(xs:List E3),2<=xs.length->xs.length<=8->(∀e∈xs,Gd m e)->kA Dd [some (.m a),some (.v (.int m)),r2,some (.m l),r4,some (.v (.int (e0.1:Nat))),some (.v (.int (e0.2.1:Nat))),some (.v e0.2.2),some (.v (.int w)),r9,some (.v (.int (k:Nat))),some (.v (.list (xs.map qm))),r12,r13,r14] ap:=fun xs x2 x8 gx=>
  Pd x2 x8 gx fun e s12 s13 s14 he=>q e fs ap _ _ _ _ _ he hf P3
 have g0':∀e∈e0::gs,Gd m e:=fun e he=>by
  rcases List.mem_cons.mp he with z|z
  ·rw[z];exact g0
  ·exact gg e z
 by_cases c:gs.length=0
 ·rw[if_pos (decide_eq_true (by rw[length_map,c];rfl))]
  have:gs=[]:=List.length_eq_zero_iff.mp c
  subst this
  refine⟨by show 2<=1000;decide,fin [e0,e0] (by simp) (by simp) fun e he=>?_⟩
  simp only[mem_cons,not_mem_nil,or_false,or_self] at he
  rw[he];exact g0
 ·rw[if_neg (by rw[decide_eq_true_eq,length_map];omega)]
  exact fin (e0::gs) (by rw[length_cons];omega) (by rw[length_cons];omega) g0'
theorem OR{r2 r4 r5 r6 r8 r10 r11 r12 r13 r14:Option D}{Dd:wV}{e0 e:E3}(h:Pl a l m im U es)(h2:es.length<=20)(g0:Gd m e0)(he:IsP m e.1 e.2.1 e.2.2)
  (qr:∀(e:E3) (fs:List E3) (Y:Mu),Gd m e->Pl a l m im Y fs->Dd.rt (.v e.2.2) Y)
  (qn:∀Y,Pl a l m im Y (es++[e])->Dd.nx [some (.m a),some (.v (.int m)),r2,some (.m l),r4,r5,r6,some (.v e0.2.2),r8,some (.v (qm e)),r10,r11,r12,r13,r14] Y) :
  ke Dd [some (.m a),some (.v (.int m)),r2,some (.m l),r4,r5,r6,some (.v e0.2.2),r8,some (.v (qm e)),r10,r11,r12,r13,r14] U:=by
 unfold ke
 have ee:qm e = .tuple [.int (e.1:Nat),.int (e.2.1:Nat),e.2.2]:=rfl
 rw[ee] at qn ⊢
 walk_at "rl"
 by_cases c1:(12:Int)<(e.1:Nat)
 ·rw[decide_eq_true c1]
  walk_at "rl"
  exact qr e0 es U g0 h
 ·rw[decide_eq_false c1]
  walk_at "rl"
  by_cases c2:(60:Int)<(e.2.1:Nat)
  ·rw[decide_eq_true c2]
   walk_at "rl"
   exact qr e0 es U g0 h
  ·rw[decide_eq_false c2]
   walk_at "rl"
   simp only[h.at_]
   have ge:Gd m e:=⟨he,∅,∅⟩
   refine⟨by rw[length_map];omega,?_⟩
   have P1:Pl a l m im (aR U l (es.map qm++[qm e])) (es++[e]):=by
    have:=h.set (fs:=es++[e]) fun x hx=>by
     rcases List.mem_append.mp hx with z|z
     ·exact h.gd x z
     ·rw[List.mem_singleton.mp z];exact ge
    rw[map_append] at this
    exact this
   rw[ee] at P1
   simp only[P1.at_]
   refine Uk (fun _=>?_) fun _=>?_
   ·walk_at "rl"
    refine⟨a,3,rfl,⋯,⋯,P1.bag,fun r ac r0 r1 s1=>?_⟩
    walk_at "rl"
    refine Uk (fun _=>?_) fun _=>?_<;>walk_at "rl"
    ·exact qr e _ ac ge (P1.step s1)
    ·exact qn ac (P1.step s1)
   ·walk_at "rl"
    exact qn _ P1
theorem O2{r2 r4 r5 r6 r7 r8 r9 r10 r11 r12 r13 r14:Option D}{Dd:wV}(h:Pl a l m im U es)(h1:1<=es.length)(h2:es.length<=20)
  (qr:∀(e:E3) (fs:List E3) (Y:Mu),Gd m e->Pl a l m im Y fs->Dd.rt (.v e.2.2) Y) :
  qj Dd [some (.m a),some (.v (.int m)),r2,some (.m l),r4,r5,r6,r7,r8,r9,r10,r11,r12,r13,r14] U:=by
 unfold qj
 rw[qF,EH]
 walk_at "rl"
 refine⟨⋯,fun i ρ Y=>∃(fs:List E3) (s4 s5 s6 s7 s8 s9 s10 s11 s12 s13 s14:Option D),ρ=[some (.m a),some (.v (.int m)),r2,some (.m l),s4,s5,s6,s7,s8,s9,s10,s11,s12,s13,s14]/\Pl a l m im Y fs/\1<=fs.length/\fs.length<=20,⟨es,_,_,_,_,_,_,_,_,_,_,_,rfl,h,h1,h2⟩,?_,?_⟩
 ·rintro i x ρ ac hx ⟨fs,s4,s5,s6,s7,s8,s9,s10,s11,s12,s13,s14,rfl,P1,l1,l2⟩
  walk_at "rl"
  refine NP P1 l1 ∅ rfl rfl fun e gs ad ge hl P2 _=>?_
  have ee:qm e = .tuple [.int (e.1:Nat),.int (e.2.1:Nat),e.2.2]:=rfl
  rw[ee]
  walk_at "rl"
  refine⟨trivial,a,6,rfl,⋯,⋯,P2.bag,fun w ap w0 w1 s3=>?_⟩
  have P3:=P2.step s3
  have tail:∀{e':E3} {hs:List E3} {ce:Mu} {t8 t10 t11 t12 t13 t14:Option D},Pl a l m im ce hs->hs.length<=gs.length->IsP m e'.1 e'.2.1 e'.2.2->ke {nx:=fun ρ Y=>∃(fs:List E3) (s4 s5 s6 s7 s8 s9 s10 s11 s12 s13 s14:Option D),ρ=[some (.m a),some (.v (.int m)),r2,some (.m l),s4,s5,s6,s7,s8,s9,s10,s11,s12,s13,s14]/\Pl a l m im Y fs/\1<=fs.length/\fs.length<=20,rt:=Dd.rt,bk:=bM (dOp aI (dOp aI (ag 3) (dC (.int 0))) (dC (.int 2))) Dd,ct:=fun ρ Y=>∃(fs:List E3) (s4 s5 s6 s7 s8 s9 s10 s11 s12 s13 s14:Option D),ρ=[some (.m a),some (.v (.int m)),r2,some (.m l),s4,s5,s6,s7,s8,s9,s10,s11,s12,s13,s14]/\Pl a l m im Y fs/\1<=fs.length/\fs.length<=20}
    [some (.m a),some (.v (.int m)),r2,some (.m l),some (.v x),some (.v (.int (e.1:Nat))),some (.v (.int (e.2.1:Nat))),some (.v e.2.2),t8,some (.v (qm e')),t10,t11,t12,t13,t14] ce:=fun P4 hh he'=>
   OR P4 ∅ ge he' (fun e fs Y g P=>qr e fs Y g P) fun Y P'=>⟨_,_,_,_,_,_,_,_,_,_,_,_,rfl,P',by rw[length_append,length_singleton];omega,by rw[length_append,length_singleton];omega⟩
  walk_at "rl"
  by_cases c0:w=0
  ·rw[tH (decide_eq_true c0)]
   walk_at "rl"
   exact tail (e':=(e.1+1,e.2.1+1,_)) P3 (le_refl _) (.turn ge.1)
  ·rw[rB (by rw[decide_eq_true_eq];exact c0)]
   walk_at "rl"
   by_cases c1:w=1
   ·rw[tH (decide_eq_true c1)]
    walk_at "rl"
    refine⟨a,rfl,P3.bag,fun g ce g1 g2 s4=>?_⟩
    walk_at "rl"
    refine⟨a,rfl,s4.1,fun g' nb g1' g2' s5=>?_⟩
    walk_at "rl"
    exact tail (e':=(e.1+1,e.2.1+1,_)) ((P3.step s4).step s5) (le_refl _) (.grid g g' g1 g1' g2 g2' ge.1)
   ·rw[rB (by rw[decide_eq_true_eq];exact c1)]
    exact Pm P3 ∅ ge fun e' hs ce s10 s11 s12 s13 s14 he' hl' P4=>tail P4 hl' he'
 ·rintro ρ ac ⟨fs,s4,s5,s6,s7,s8,s9,s10,s11,s12,s13,s14,rfl,P1,l1,l2⟩
  walk_at "rl"
  simp only[P1.at_]
  cases fs with
  |nil=>simp at l1
  |cons e r=>
   rw[map_cons,FA]
   have ee:qm e = .tuple [.int (e.1:Nat),.int (e.2.1:Nat),e.2.2]:=rfl
   simp only[ee]
   walk_at "rl"
   exact qr e _ ac (P1.gd e (by simp)) P1
theorem JF(h:Dt ds U Qd):ve ‹Qd› (aS ["","","","","","","","","","","","","","",""] ds) U:=by
 obtain⟨a,m,rfl,m1,m3,hb,q⟩:=h
 unfold ve
 walk_at "rl"
 refine⟨a,3,rfl,⋯,⋯,hb,fun r ac r0 r1 s1=>?_⟩
 walk_at "rl"
 obtain⟨_,e1,n,rfl,n1,n7⟩:=pick (P:=fun v=>∃n:Int,v = .int n/\1<=n/\n<=12) (xs:=[.int 2,.int 4,.int 12]) r0 (by exact r1) (by
  intro v hv
  simp only[mem_cons,not_mem_nil,or_false] at hv
  rcases hv with rfl|rfl|rfl<;>exact⟨_,rfl,⋯,⋯⟩)
 rw[e1]
 refine⟨a,n,rfl,n1,∅,s1.1,fun u ad u0 u1 s2=>?_⟩
 walk_at "rl"
 have s12:=s1.trans s2
 obtain⟨k,hk⟩:∃k:Nat,1+u=k:=⟨(1+u).toNat,∅⟩
 rw[hk,Sg]
 walk_at "rl"
 refine⟨⟨∅,∅⟩,by rw[ET];omega,fun p hp=>?_⟩
 have pa:p≠a:=fun z=>by obtain⟨g,k,e,_⟩:=s12.1;rw[z,e] at hp;cases hp
 have p0:U p=none:=by rw[<- s12.2 p pa];exact hp
 refine⟨fun i acc Y=>∃fs:List E3,acc=fs.map qm/\fs.length=i/\(∀b,b≠a->b≠p->∀ds,U b=some ds->Y b=some ds)/\Bag Y a/\(∀e∈fs,Gd m e),⟨[],rfl,rfl,fun b n1 n2 ds e=>by rw[bR n2,s12.2 b n1];exact e,s12.1.set pa,(fun _ z=>nomatch z)⟩,?_,?_⟩
 ·rintro i x acc Y hx hacc ⟨fs,rfl,hf,kp,hb',gd⟩
  refine⟨⟨trivial,trivial,trivial⟩,a,m,rfl,m1,∅,hb',fun v ap v0 v1 s3=>?_⟩
  walk_at "rl"
  refine⟨by rw[s3.2 p pa];exact hacc,fs++[(1,1,.tuple [.str "kind",.int v])],by rw[map_append];rfl,by simp[hf],fun b n1 n2 ds e=>by rw[bR n2,s3.2 b n1];exact kp b n1 n2 ds e,s3.1.set pa,fun e he=>?_⟩
  rcases List.mem_append.mp he with z|z
  ·exact gd e z
  ·rw[List.mem_singleton.mp z];exact⟨.kind v v0 v1,by show 1<=12;decide,by show 1<=60;decide⟩
 ·rintro acc Y ⟨fs,rfl,hf,kp,hb',gd⟩ hacc
  rw[ET] at hf
  have P:Pl a p m U Y fs:=⟨pa,hb',hacc,gd,kp⟩
  exact O2 P ∅ ∅ fun e gs bd ge P'=>q e.1 e.2.1 e.2.2 bd ge.1 ge.2.1 ge.2.2 (P'.w p0)
end
def iT(d:Int):PyData->Bool
 |.tuple [.int a,.int b,.int c]=>isNum (.tuple [.int a,.int b,.int c])&&decide (sg d a b=1)
 |_=>false
noncomputable def sS:DSp:=fun ds U Q=>∃(d:Int) (t:PyData),ds=[.v (.int d),.v t]/\bu d/\Few t/\(∀x,t=dN x->Bd 8900 x)/\Q (.v (.bool (iT d t))) U
theorem Js{U:Mu}{Q:DK}{ds:List D}(h:sS ds U Q):ds.length=2:=by obtain⟨_,_,rfl,_⟩:=h;rfl
noncomputable def qQ:DSp:=fun ds U Q=>∃(d:Int) (x:N3),ds=[.v (.int d),.v (dN x)]/\bu d/\Ok x/\Bd 8900 x/\sg d x.a x.b=1/\Q (.v .none) U
theorem CW{U:Mu}{Q:DK}{ds:List D}(h:qQ ds U Q):ds.length=2:=by obtain⟨_,_,rfl,_⟩:=h;rfl
noncomputable def xn:XSp:=fun ds U Xk=>∃(d:Int) (t:PyData),ds=[.v (.int d),.v t]/\bu d/\Few t/\(∀x,t=dN x->Bd 8900 x)/\iT d t=false/\Xk U
theorem EK{ds:List D}{U:Mu}{Xk:Mu->Prop}(h:xn ds U Xk):ds.length=2:=by obtain⟨_,_,rfl,_⟩:=h;rfl
noncomputable def qh:DSp:=fun ds U Q=>∃(a:Addr) (d:Int),ds=[.m a,.v (.int d)]/\bu d/\Bag U a/\∀t Y,Few t->(∀x,t=dN x->Bd 8900 x)->iT d t=false->Step a U Y->Q (.v t) Y
theorem FN{ds:List D}{U:Mu}{Q:DK}(h:qh ds U Q):ds.length=2:=by obtain⟨_,_,rfl,_⟩:=h;rfl
structure KindsOk(d:Int)(ks:List N3):Prop where
 l1:1<=ks.length
 l3:ks.length<=3
 ok:∀k∈ks,Ok k/\Bd 60 k/\sg d k.a k.b=1
noncomputable def AI:DSp:=fun ds U Q=>∃(a:Addr) (d:Int),ds=[.m a,.v (.int d)]/\bu d/\Bag U a/\∀ks Y,KindsOk d ks->kx a U Y->Q (.v (.tuple (ks.map dN))) Y
theorem HR{U:Mu}{Q:DK}{ds:List D}(h:AI ds U Q):ds.length=2:=by obtain⟨_,_,rfl,_⟩:=h;rfl
structure Iv(d:Int)(ks:List N3):Prop where
 l1:1<=ks.length
 l3:ks.length<=3
 ok:∀k∈ks,Ok k/\Bd 140 k/\sg d k.a k.b=1
theorem KindsOk.wide{d:Int}{ks:List N3}(h:KindsOk d ks):Iv d ks:=⟨h.l1,h.l3,fun k hk=>⟨(h.ok k hk).1,(h.ok k hk).2.1.mono ⋯,(h.ok k hk).2.2⟩⟩
noncomputable def dQ:DSp:=fun ds U Q=>∃(d:Int) (ks:List N3),ds=[.v (.int d),.v (.tuple (ks.map dN))]/\bu d/\1<=ks.length/\ks.length<=3/\(∀k∈ks,Ok k/\Bd 140 k/\sg d k.a k.b=1)/\Q (.v .none) U
theorem CV{U:Mu}{Q:DK}{ds:List D}(h:dQ ds U Q):ds.length=2:=by obtain⟨_,_,rfl,_⟩:=h;rfl
noncomputable def Ua(d:Int)(t:PyData):Prop:=Few t/\∀x,t=dN x->Bd 8900 x
def KT(d:Int):PyData->Prop
 |.tuple xs=>xs.length<=1000/\(xs.length<=3->∀x∈xs,Ua d x)
 |_=>True
def uc(d:Int):PyData->Bool
 |.tuple xs=>decide (1<=xs.length)&&(decide (xs.length<=3)&&xs.all (iT d))
 |_=>false
noncomputable def wN:DSp:=fun ds U Q=>∃(d:Int) (t:PyData),ds=[.v (.int d),.v t]/\bu d/\KT d t/\Q (.v (.bool (uc d t))) U
theorem IG{U:Mu}{Q:DK}{ds:List D}(h:wN ds U Q):ds.length=2:=by obtain⟨_,_,rfl,_⟩:=h;rfl
noncomputable def pX:XSp:=fun ds U Xk=>∃(d:Int) (t:PyData),ds=[.v (.int d),.v t]/\bu d/\KT d t/\uc d t=false/\Xk U
theorem Gi{ds:List D}{U:Mu}{Xk:Mu->Prop}(h:pX ds U Xk):ds.length=2:=by obtain⟨_,_,rfl,_⟩:=h;rfl
noncomputable def uh:DSp:=fun ds U Q=>∃(a:Addr) (d:Int) (ks:List N3),ds=[.m a,.v (.int d),.v (.tuple (ks.map dN))]/\bu d/\KindsOk d ks/\Bag U a/\∀t Y,KT d t->uc d t=false->Step a U Y->Q (.v t) Y
theorem FD{U:Mu}{Q:DK}{ds:List D}(h:uh ds U Q):ds.length=3:=by obtain⟨_,_,_,rfl,_⟩:=h;rfl
noncomputable def jE:DTS:=
 (bM (lN (aB tR (ae (ag 1) ai)) (dOp (cW false) (aB vO (ae (ag 0) (ae (ag 1) ai))) (dC (.int 1)))))
noncomputable def fU:DTS:=
 (cZ (iQ (dB (aB sS (ae (ag 0) (ae (ag 1) ai))))) Bq cg)
noncomputable def dh:DTX:=
 (xIf (iQ (dB (aB sS (ae (ag 0) (ae (ag 1) ai))))) (fun _ U Xk=>Xk U) BG)
noncomputable def i8(ea:Addr):DTS:=
 (aY (bJ (ff (ae (bj (ae (dC (.str "NoRoot")) (ae (cF ea false (ag 1)) ai))) (ae (bj (ae (dC (.str "NoNumber")) (ae (cF ea true (ag 1)) ai))) (ae (bj (ae (dC (.str "NoLaying")) (ae (cF ea false (ag 1)) ai))) (ae (bj (ae (dC (.str "NoTile")) (ae (cF ea false (ag 1)) ai))) (ae (bj (ae (dC (.str "NoFit")) (ae (cF ea false (ag 1)) ai))) (ae (bj (ae (dC (.str "NoKinds")) (ae (cF ea false (ag 1)) ai))) (ae (bj (ae (dC (.str "NoPlan")) (ae (cF ea false (ag 1)) ai))) (ae (bj (ae (dC (.str "NoSpot")) (ae (cF ea false (ag 1)) ai))) (ae (bj (ae (dC (.str "NoNet")) (ae (cF ea false (ag 1)) ai))) (ae (bj (ae (dC (.str "NoText")) (ae (cF ea false (ag 1)) ai))) (ae (bj (ae (dC (.str "NoSaying")) (ae (cF ea false (ag 1)) ai))) (ae (bj (ae (dC (.str "NoName")) (ae (cF ea false (ag 1)) ai))) (ae (bj (ae (dC (.str "TooMany")) (ae (cF ea false (ag 1)) ai))) ai)))))))))))))) (ar 2))
 (aY (bJ (dJ [none,none] (gb (ag 2)) (iP 2 (bS (ar 0) (bS (ar 1) i7))) (dB (ag 1)) (ag 0)) (ar 3))
 (aY (cZ (lL (dB (dOp (cW false) (dCB cI (ae (ag 3) ai)) (dC (.int 1)))) (dB (cF ea true (ag 1)))) (bM (dOp aI (ag 3) (dC (.int 0)))) cg)
 (bM (dC (.str "several"))))))
noncomputable def lD:DTS:=
 (aY (bJ (aB sW (ae (ag 0) (ae (ag 1) ai))) (ar 2))
 (aY (bJ (ff (ae (aB Hu (ae (ag 0) ai)) (ae (aB uU (ae (ag 2) ai)) (ae (bj (ae (dC (.int 0)) (ae (dC (.int 0)) (ae (dC (.int 1)) ai)))) (ae (bj (ae (du (dOp aI (ag 2) (dC (.int 0))) (dC (.int 2))) (ae (du (dOp aI (ag 2) (dC (.int 1))) (dC (.int 2))) (ae (du (dOp aI (ag 2) (dC (.int 2))) (dC (.int 2))) ai)))) (ae (bj (ae (dOp aI (ag 2) (dC (.int 0))) (ae (dOp aI (ag 2) (dC (.int 1))) (ae (vz (dC (.int 0)) (dOp aI (ag 2) (dC (.int 2)))) ai)))) (ae (dCB oV (ae (ag 2) ai)) (ae (dSl (ag 2) lu (tL (dC (.int 2)))) (ae (dOp ij (ag 2) (bj (ae (dC (.int 1)) ai))) (ae (bj (ae (dOp aI (ag 2) (dC (.int 0))) (ae (dC .none) (ae (dOp aI (ag 2) (dC (.int 2))) ai)))) (ae (bj (ae (dC (.bool true)) (ae (dC (.int 0)) (ae (dC (.int 1)) ai)))) (ae (bj (ae (dC (.int 1)) (ae (dC (.int 0)) (ae (dC (.bool true)) ai)))) (ae (bj (ae (ag 2) ai)) ai))))))))))))) (ar 3))
 (bM (dOp aI (ag 3) (aB bX (ae (ag 0) (ae (dC (.int 12)) ai)))))))
noncomputable def rV:DTS:=
 (aY (bJ (G8 (ae (aB sW (ae (ag 0) (ae (ag 1) ai))) ai)) (ar 2))
 (aY (GR (uB (ae (aB bX (ae (ag 0) (ae (dC (.int 3)) ai))) ai)) (ar 3) (aY (bJ (aB bX (ae (ag 0) (ae (dC (.int 6)) ai))) (ar 4))
 (aY (bJ (bj (ae (jB (dC (.int 1)) (aB bX (ae (ag 0) (ae (dC (.int 9)) ai)))) (ae (dC (.int 0)) (ae (jB (dC (.int 1)) (aB bX (ae (ag 0) (ae (dC (.int 9)) ai)))) ai)))) (ar 5))
 (aY (bJ (dOp aI (ff (ae (dOp aI (ag 2) (dC (.int 0))) (ae (aB dI (ae (ag 1) (ae (dOp aI (ag 2) (dC (.int 0))) ai))) ai))) (CU (ag 4) (dC (.int 2)))) (ar 6))
 (aY (cZ (dB (dOp rGt (ag 4) (dC (.int 3)))) (bJ (aB sW (ae (ag 0) (ae (ag 1) ai))) (ar 6)) (cZ (dB (dOp rGt (ag 4) (dC (.int 1)))) (bJ (aB pE (ae (ag 1) (ae (ag 6) (ae (aB dE (ae (dOp aI (ag 5) (dC (.int 0))) (ae (dOp aI (ag 5) (dC (.int 1))) (ae (dOp aI (ag 5) (dC (.int 2))) ai)))) ai)))) (ar 6)) cg))
 (kN (MD (ag 2) (ag 6))))))))
 (bM (dCB qZ (ae (ag 2) ai)))))
noncomputable def jU(ea:Addr):DTS:=
 (aY (bJ (ff (ae (bj (ae (dC (.str "NoRoot")) (ae (cF ea false (ag 1)) ai))) (ae (bj (ae (dC (.str "NoNumber")) (ae (cF ea false (ag 1)) ai))) (ae (bj (ae (dC (.str "NoLaying")) (ae (cF ea false (ag 1)) ai))) (ae (bj (ae (dC (.str "NoTile")) (ae (cF ea false (ag 1)) ai))) (ae (bj (ae (dC (.str "NoFit")) (ae (cF ea false (ag 1)) ai))) (ae (bj (ae (dC (.str "NoKinds")) (ae (cF ea true (ag 1)) ai))) (ae (bj (ae (dC (.str "NoPlan")) (ae (cF ea false (ag 1)) ai))) (ae (bj (ae (dC (.str "NoSpot")) (ae (cF ea false (ag 1)) ai))) (ae (bj (ae (dC (.str "NoNet")) (ae (cF ea false (ag 1)) ai))) (ae (bj (ae (dC (.str "NoText")) (ae (cF ea false (ag 1)) ai))) (ae (bj (ae (dC (.str "NoSaying")) (ae (cF ea false (ag 1)) ai))) (ae (bj (ae (dC (.str "NoName")) (ae (cF ea false (ag 1)) ai))) (ae (bj (ae (dC (.str "TooMany")) (ae (cF ea false (ag 1)) ai))) ai)))))))))))))) (ar 2))
 (aY (bJ (dJ [none,none] (gb (ag 2)) (iP 2 (bS (ar 0) (bS (ar 1) i7))) (dB (ag 1)) (ag 0)) (ar 3))
 (aY (cZ (lL (dB (dOp (cW false) (dCB cI (ae (ag 3) ai)) (dC (.int 1)))) (dB (cF ea true (ag 1)))) (bM (dOp aI (ag 3) (dC (.int 0)))) cg)
 (bM (dC (.str "several"))))))
noncomputable def vN:DTS:=
 (aY (cZ (qL (iQ (dB (EO "tuple" (ag 1)))) (qL (dB (dOp rLt (dCB cI (ae (ag 1) ai)) (dC (.int 1)))) (dB (dOp rGt (dCB cI (ae (ag 1) ai)) (dC (.int 3)))))) (bM (dC (.bool false))) cg)
 (bM (dCB CF (ae (KR [none,some 0] (D8 (ag 1)) (ar 0) jb (aB sS (ae (ag 1) (ae (ag 0) ai)))) ai))))
noncomputable def mr:DTS:=
 (cZ (iQ (dB (aB wN (ae (ag 0) (ae (ag 1) ai))))) Bq cg)
noncomputable def fg:DTX:=
 (xIf (iQ (dB (aB wN (ae (ag 0) (ae (ag 1) ai))))) (fun _ U Xk=>Xk U) BG)
noncomputable def kF:DTS:=
 (aY (bJ (aB bX (ae (ag 0) (ae (dCB cI (ae (ag 2) ai)) ai))) (ar 3))
 (aY (bJ (aB bX (ae (ag 0) (ae (dC (.int 8)) ai))) (ar 4))
 (aY (cZ (dB (dOp rLt (ag 4) (dC (.int 5)))) (bM (dOp ij (dOp ij (dSl (ag 2) lu (tL (ag 3))) (bj (ae (aB qh (ae (ag 0) (ae (ag 1) ai))) ai))) (dSl (ag 2) (tL (dOp ij (ag 3) (dC (.int 1)))) lu))) cg)
 (bM (dOp aI (ff (ae (bj ai) (ae (dSl (dOp ij (dOp ij (dOp ij (ag 2) (ag 2)) (ag 2)) (ag 2)) lu (tL (dOp ij (dC (.int 4)) (ag 3)))) (ae (dCB oV (ae (ag 2) ai)) ai)))) (vz (ag 4) (dC (.int 5))))))))
section
variable {U:Mu}{Qd:DK}{ds:List D}
theorem wu{d:Int}{x:N3}(ox:Ok x):iT d (dN x)=decide (sg d x.a x.b=1):=by
 show (isNum (dN x)&&decide (sg d x.a x.b=1))=_
 rw[Ku ox,Bool.true_and]
theorem qv{d:Int}{t:PyData}(h:isNum t=false):iT d t=false:=by
 unfold iT
 split
 ·rw[h,Bool.false_and]
 ·rfl
theorem MF{t:PyData}(h:isNum t=true):∃x:N3,t=dN x/\Ok x:=by
 unfold isNum at h
 split at h
 ·rename_i a b c
  simp only[and_eq_true,decide_eq_true_eq,beq_iff_eq] at h
  exact⟨⟨a,b,c⟩,rfl,by show 0<c;omega,h.2⟩
 ·cases h
theorem x9(h:sS ds U Qd):jE ‹Qd› (aS ["",""] ds) U:=by
 obtain⟨d,t,rfl,hd,ft,bt,q⟩:=h
 unfold jE
 walk_at "rl"
 refine⟨t,rfl,ft,?_⟩
 walk_at "rl"
 cases e:isNum t with
 |true=>
  walk_at "rl"
  obtain⟨x,rfl,ox⟩:=MF e
  refine⟨d,x,rfl,hd,bt x rfl,?_⟩
  walk_at "rl"
  rw[wu ox] at q
  exact q
 |false=>
  walk_at "rl"
  rw[qv e] at q
  exact q
theorem tM(h:qQ ds U Qd):fU ‹Qd› (aS ["",""] ds) U:=by
 obtain⟨d,x,rfl,hd,ox,bx,hx,q⟩:=h
 unfold fU
 walk_at "rl"
 refine⟨d,dN x,rfl,hd,G3,fun y e=>?_,?_⟩
 ·have:y=x:=by
   simp only[dN,PyData.tuple.injEq,List.cons.injEq,PyData.int.injEq,and_true] at e
   exact N3.ext' e.1.symm e.2.1.symm e.2.2.symm
  rw[this];exact bx
 ·walk_at "rl"
  rw[wu ox,hx]
  simp only[decide_true,Bool.not_true,false_eq_true,↓reduceIte]
  exact q
theorem j6{Xk:Mu->Prop}(h:xn ds U Xk):dh (aS ["",""] ds) U Xk:=by
 obtain⟨d,t,rfl,hd,ft,bt,ht,q⟩:=h
 unfold dh
 rw[J5]
 walk_at "rl"
 refine⟨d,t,rfl,hd,ft,bt,?_⟩
 rw[ht]
 exact q
theorem rK{ea fa:Addr}(q:Qd (.v (.str "NoNumber")) U):i8 ea {nx:=fun _ _=>False,rt:=Qd} [some (.o fa),some (.o ea),none,none] U:=by
 unfold i8
 simp only[↓qF,↓Fe,↓CG,↓Cq,↓gv,↓kf,↓q_c,↓rX,↓CS,↓CQ,↓eW,map_some,set_cons_zero,set_cons_succ]
 refine wK (ns:=[("NoRoot",false),("NoNumber",true),("NoLaying",false),("NoTile",false),("NoFit",false),("NoKinds",false),("NoPlan",false),("NoSpot",false),("NoNet",false),("NoText",false),("NoSaying",false),("NoName",false),("TooMany",false)]) rfl ⋯ ?_
 simp only[↓eW,↓qF,set_cons_zero,set_cons_succ,map_cons,map_nil,filterMap_cons,List.filterMap_nil,Jq,false_eq_true,↓reduceIte]
 simp only[↓D0,↓yj,↓q_B,↓Mr,↓Ke,↓gv,↓kf,↓wX,↓wa,↓q_c,↓Ct,↓rX,↓CD,↓wo,getElem?_cons_zero,getElem?_cons_succ,length_cons,length_nil]
 exact q
theorem IU{x y:N3}(e:dN x=dN y):x=y:=by
 simp only[dN,PyData.tuple.injEq,List.cons.injEq,PyData.int.injEq,and_true] at e
 exact N3.ext' e.1 e.2.1 e.2.2
noncomputable def QX(d:Int)(t:PyData):Prop:=Few t/\(∀x,t=dN x->Bd 8900 x)/\iT d t=false
theorem NW{d:Int}{t:PyData}(h:t∈rD):QX d t:=by
 unfold rD at h
 simp only[mem_cons,not_mem_nil,or_false] at h
 rcases h with rfl|rfl|rfl|rfl|rfl|rfl|rfl|rfl|rfl|rfl|rfl|rfl|rfl|rfl|rfl|rfl|rfl|rfl|rfl|rfl
 all_goals
  refine⟨by simp[Few],?_,by first|rfl|exact qv nofun⟩
  (intro x e
   simp only[dN,PyData.tuple.injEq,List.cons.injEq,PyData.int.injEq,and_true,reduceCtorEq,false_and,and_false,List.nil_eq] at e
   try (obtain⟨e1,e2,e3⟩:=e;exact⟨Sz.of (by rw[<- e1];decide +kernel),Sz.of (by rw[<- e2];decide +kernel),Sz.of (by rw[<- e3];decide +kernel)⟩))
theorem Og{d:Int}{x:N3}(b:Bd 8900 x)(h:iT d (dN x)=false):QX d (dN x):=⟨G3,fun y e=>by rw[<- IU e];exact b,h⟩
theorem uR{d:Int}{t:PyData}(f:Few t)(h:∀x,t≠dN x)(n:isNum t=false):QX d t:=⟨f,fun x e=>absurd e (h x),qv n⟩
theorem zX(h:qh ds U Qd):lD ‹Qd› (aS ["","","",""] ds) U:=by
 obtain⟨a,d,rfl,hd,hb,q⟩:=h
 unfold lD
 walk_at "rl"
 refine⟨a,d,rfl,hd,hb,fun x ac ox bx hx s1=>?_⟩
 walk_at "rl"
 refine⟨a,rfl,s1.1,fun o ad ho s2=>?_⟩
 have m2:∀z:Int,MulOk z 2:=fun z=>mulR ⋯
 refine⟨x,rfl,m2 _,m2 _,m2 _,?_⟩
 simp only[oV,dN]
 walk_at "rl"
 refine⟨by show 4<=1000;decide,a,12,rfl,⋯,⋯,s2.1,fun r ap r0 r1 s3=>?_⟩
 walk_at "rl"
 have om:=vC ox
 have b2:Bd 30 ⟨x.a*2,x.b*2,x.c*2⟩:=⟨(bx.a.mul (Sz.of (n:=2) ⋯)).mono ⋯,(bx.b.mul (Sz.of (n:=2) ⋯)).mono ⋯,(bx.c.mul (Sz.of (n:=2) ⋯)).mono ⋯⟩
 have bn:Bd 30 ⟨x.a,x.b,0-x.c⟩:=⟨bx.a.mono ⋯,bx.b.mono ⋯,by rw[show 0-x.c = -x.c by omega];exact bx.c.neg.mono ⋯⟩
 obtain⟨t,e,f1,f2,f3⟩:=pick (P:=QX d) (xs:=[o,dN {a:=(minus x).a,b:=(minus x).b,c:=(minus x).c},dN {a:=0,b:=0,c:=1},
       dN {a:=x.a*2,b:=x.b*2,c:=x.c*2},dN {a:=x.a,b:=x.b,c:=0-x.c},
       PyData.list [PyData.int x.a,PyData.int x.b,PyData.int x.c],
       PyData.tuple (oR [PyData.int x.a,PyData.int x.b,PyData.int x.c] none (some 2)),
       PyData.tuple [PyData.int x.a,PyData.int x.b,PyData.int x.c,PyData.int 1],
       PyData.tuple [PyData.int x.a,PyData.none,PyData.int x.c],
       PyData.tuple [PyData.bool true,PyData.int 0,PyData.int 1],
       PyData.tuple [PyData.int 1,PyData.int 0,PyData.bool true],
       PyData.tuple [dN {a:=x.a,b:=x.b,c:=x.c}]]) r0 (by exact r1) (by
  refine bE ?_ <| bE ?_ <| bE ?_ <| bE ?_ <| bE ?_ <| bE ?_ <| bE ?_ <| bE ?_ <| bE ?_ <| bE ?_ <| bE ?_ <| bE ?_ <| Er
  ·exact NW ho
  ·refine Og ((AB bx).mono ⋯) ?_
   have es:sg d (minus x).a (minus x).b = -1:=by show sg d (-x.a) (-x.b) = -1;rw[Cb hd,hx]
   rw[show ({a:=(minus x).a,b:=(minus x).b,c:=(minus x).c}:N3)=minus x from rfl,wu om,es]
   decide
  ·refine Og ⟨Sz.of nofun,Sz.of nofun,Sz.of nofun⟩ ?_
   rw[show dN ⟨0,0,1⟩=dN bL from rfl,wu fV,show sg d bL.a bL.b=0 from jf.mpr ⟨rfl,rfl⟩]
   decide
  ·refine Og (b2.mono ⋯) (qv ?_)
   have g:=HM x.a x.b x.c 2
   rw[ox.g] at g
   simp[dN,isNum,g]
  ·refine Og (bn.mono ⋯) (qv ?_)
   have:=ox.c
   have h:¬ (1<=0-x.c):=by omega
   simp only[dN,isNum,decide_eq_false h,Bool.false_and]
  ·exact uR trivial (fun y e=>by cases e) rfl
  ·exact uR (by show 2<=1000;decide) (fun y e=>by have e2:PyData.tuple [PyData.int x.a,PyData.int x.b]=dN y:=e;simp[dN] at e2) rfl
  ·exact uR (by show 4<=1000;decide) (fun y e=>by simp[dN] at e) rfl
  ·exact uR (by show 3<=1000;decide) (fun y e=>by simp[dN] at e) rfl
  ·exact uR (by show 3<=1000;decide) (fun y e=>by simp[dN] at e) rfl
  ·exact uR (by show 3<=1000;decide) (fun y e=>by simp[dN] at e) rfl
  ·exact uR (by show 1<=1000;decide) (fun y e=>by simp[dN] at e) rfl)
 rw[e]
 exact q t _ f1 f2 f3 (s1.trans (s2.trans s3))
noncomputable def LK(a p:Addr)(d:Int)(x:N3)(U:Mu)(i:Nat)(ρ:Rho)(Y:Mu):Prop:=∃(ks:List N3) (r3 r4 r5 r6:Option D),ρ=[some (.m a),some (.v (.int d)),some (.m p),r3,r4,r5,r6]/\Bag Y a/\(∀b,b≠a->∀ds,U b=some ds->Y b=some ds)/\Y p=some ((x::ks).map dN)/\ks.length=i/\(∀k∈x::ks,Ok k/\Bd 60 k/\sg d k.a k.b=1)
theorem Gg(h:AI ds U Qd):rV ‹Qd› (aS ["","","","","","",""] ds) U:=by
 obtain⟨a,d,rfl,hd,hb,q⟩:=h
 have s5:=Ba hd.1 hd.2.1
 unfold rV
 walk_at "rl"
 refine⟨a,d,rfl,hd,hb,fun x ac ox bx sx s1=>?_⟩
 walk_at "rl"
 intro p hp
 have hap:a≠p:=fun z=>by obtain⟨g,m,e,_⟩:=s1.1;rw[z,hp] at e;cases e
 have sb:Bag (aR ac p [dN x]) a:=by obtain⟨g,m,e,z⟩:=s1.1;exact⟨g,m,by rw[bR hap];exact e,z⟩
 rw[EH]
 walk_at "rl"
 refine⟨a,3,rfl,⋯,⋯,sb,fun n ad n0 n1 s2=>?_⟩
 walk_at "rl"
 have keep2:∀b,b≠a->∀ds,U b=some ds->ad b=some ds:=fun b hb' ds e=>by
  have e1:=(s1.2 b hb').trans e
  have:b≠p:=fun z=>by rw[z,hp] at e1;cases e1
  rw[s2.2 b hb',bR this];exact e1
 have hp2:ad p=some ([x].map dN):=by rw[s2.2 p (fun z=>hap z.symm)];exact bP
 refine⟨⟨∅,∅⟩,LK a p d x U,⟨[],_,_,_,_,rfl,s2.1,keep2,hp2,rfl,fun k hk=>by rw[List.mem_singleton.mp hk];exact⟨ox,bx.mono ⋯,sx⟩⟩,?_,?_⟩
 ·rintro i v ρ ap hv ⟨ks,r3,r4,r5,r6,rfl,hb3,kp,hpk,hl,hok⟩
  obtain⟨rfl,hi⟩:=Qr hv
  have hi2:i<2:=by omega
  walk_at "rl"
  refine⟨a,6,rfl,⋯,⋯,hb3,fun way ce w0 w1 s4=>?_⟩
  walk_at "rl"
  refine⟨a,9,rfl,⋯,⋯,s4.1,fun t nb t0 t1 s5'=>?_⟩
  walk_at "rl"
  refine⟨a,9,rfl,⋯,⋯,s5'.1,fun u lf u0 u1 s6=>?_⟩
  walk_at "rl"
  have s46:=s4.trans (s5'.trans s6)
  have hp6:lf p=some (dN x::ks.map dN):=by rw[s46.2 p (fun z=>hap z.symm)];exact hpk
  simp only[hp6]
  walk_at "rl"
  have nx:=vL hd ox sx
  have ocx:=j0 nx
  have bcx:=Kn s5 nx bx
  refine⟨d,x,rfl,s5,nx,bx.mono ⋯,?_⟩
  walk_at "rl"
  obtain⟨m0,m1⟩:=tj way (show (0:Int)<2 by decide)
  obtain⟨_,e1,k1,rfl,ok1,bk1,sk1⟩:=pick (P:=fun v=>∃k,v=dN k/\Ok k/\Bd 46 k/\sg d k.a k.b=1) (xs:=[dN x,dN (bV d x)]) m0 (by exact m1) (by
   refine bE ?_ <| bE ?_ <| Er
   ·exact⟨_,rfl,ox,bx.mono ⋯,sx⟩
   ·exact⟨_,rfl,ocx,bcx.mono ⋯,CC hd ox sx⟩)
  rw[e1]
  refine⟨⋯,?_⟩
  walk_at "rl"
  have fin:∀(kw:Mu) (k:N3) (r3 r4 r5:Option D),Step a lf kw->Ok k->Bd 60 k->sg d k.a k.b=1->MD (ag 2) (ag 6) [some (.m a),some (.v (.int d)),some (.m p),r3,r4,r5,some (.v (dN k))] kw (fun _ Y=>LK a p d x U (i+1) [some (.m a),some (.v (.int d)),some (.m p),r3,r4,r5,some (.v (dN k))] Y):=fun kw k r3 r4 r5 s7 ok bk sk=>by
   have s47:=s46.trans s7
   have hp7:kw p=some (dN x::ks.map dN):=by rw[s47.2 p (fun z=>hap z.symm)];exact hpk
   walk_at "rl"
   simp only[hp7]
   refine⟨by simp;omega,ks++[k],_,_,_,_,rfl,?_,fun b hb' ds e=>?_,?_,by simp[hl],fun z hz=>?_⟩
   ·obtain⟨g,m,e,z⟩:=s47.1;exact⟨g,m,by rw[bR hap];exact e,z⟩
   ·have h3:=kp b hb' ds e
    by_cases hbp:b=p
    ·subst hbp
     exfalso
     have e1:=(s1.2 b hb').trans e
     rw[hp] at e1;cases e1
    ·rw[bR hbp,s47.2 b hb'];exact h3
   ·rw[bP];simp
   ·rcases List.mem_cons.mp hz with z'|z'
    ·exact hok z (by rw[z'];exact mem_cons_self)
    ·rcases List.mem_append.mp z' with z''|z''
     ·exact hok z (mem_cons_of_mem _ z'')
     ·rw[List.mem_singleton.mp z''];exact⟨ok,bk,sk⟩
  by_cases c1:3<way
  ·rw[tH (by simpa using c1)]
   walk_at "rl"
   refine⟨a,d,rfl,hd,s6.1,fun k kw ok bk sk s7=>?_⟩
   have:=fin kw k (some (.v (.int (0+(i:Int))))) (some (.v (.int way))) (some (.v (dN ⟨1+t,0,1+u⟩))) s7 ok (bk.mono ⋯) sk
   walk_at "rl"
   exact this
  ·rw[rB (by simpa using c1)]
   walk_at "rl"
   by_cases c2:1<way
   ·rw[tH (by simpa using c2)]
    walk_at "rl"
    have un:1+u≠0:=by omega
    have z4:∀v:Int,0<=v->v<9->Sz 4 (1+v):=fun v h1 h2=>Sz.of (by show (1+v).natAbs<16;omega)
    have op:=mW (1+t) 0 un
    have bp:Bd 4 (low (1+t) 0 (1+u)):=o8 un (z4 t t0 t1) (Sz.of (by show (0:Int).natAbs<16;decide)) (z4 u u0 u1)
    have hp':sg d (low (1+t) 0 (1+u)).a (low (1+t) 0 (1+u)).b=1:=by
     rw[Dw hd ∅]
     unfold sg
     rw[if_neg ∅,if_pos ∅]
    refine⟨_,_,_,rfl,un,(z4 u u0 u1).mono ⋯,?_⟩
    walk_at "rl"
    refine⟨d,k1,_,rfl,s5,ok1,op,bk1.mono ⋯,bp.mono ⋯,?_⟩
    walk_at "rl"
    exact fin lf _ _ _ _ (Step.refl s6.1) (eR ok1 op) ((Fc s5 ok1 op bk1 bp).mono ⋯) (by rw[L0 hd ok1 op,sk1,hp'];rfl)
   ·rw[rB (by simpa using c2)]
    walk_at "rl"
    exact fin lf k1 _ _ _ (Step.refl s6.1) ok1 (bk1.mono ⋯) sk1
 ·rintro ρ ap ⟨ks,r3,r4,r5,r6,rfl,hb3,kp,hpk,hl,hok⟩
  rw[ET] at hl
  walk_at "rl"
  simp only[hpk]
  exact q (x::ks) ap ⟨by simp,by simp;omega,hok⟩ ⟨hb3,kp⟩
theorem tE{U:Mu}{Qd:DK}{ea fa:Addr}(q:Qd (.v (.str "NoKinds")) U):jU ea {nx:=fun _ _=>False,rt:=Qd} [some (.o fa),some (.o ea),none,none] U:=by
 unfold jU
 simp only[↓qF,↓Fe,↓CG,↓Cq,↓gv,↓kf,↓q_c,↓rX,↓CS,↓CQ,↓eW,map_some,set_cons_zero,set_cons_succ]
 refine wK (ns:=[("NoRoot",false),("NoNumber",false),("NoLaying",false),("NoTile",false),("NoFit",false),("NoKinds",true),("NoPlan",false),("NoSpot",false),("NoNet",false),("NoText",false),("NoSaying",false),("NoName",false),("TooMany",false)]) rfl ⋯ ?_
 simp only[↓eW,↓qF,set_cons_zero,set_cons_succ,map_cons,map_nil,filterMap_cons,List.filterMap_nil,Jq,false_eq_true,↓reduceIte]
 simp only[↓D0,↓yj,↓q_B,↓Mr,↓Ke,↓gv,↓kf,↓wX,↓wa,↓q_c,↓Ct,↓rX,↓CD,↓wo,getElem?_cons_zero,getElem?_cons_succ,length_cons,length_nil]
 exact q
theorem Vg{xs:List PyData}(g:PyData->Bool):eZ (xs.filterMap fun x=>some (.bool (g x)))=some (xs.map g):=by
 induction xs with
 |nil=>rfl
 |cons x xs ih=>
  rw[filterMap_cons]
  show eZ (PyData.bool (g x)::_)=_
  unfold eZ
  rw[ih]
  rfl
theorem KU(h:wN ds U Qd):vN ‹Qd› (aS ["",""] ds) U:=by
 obtain⟨d,t,rfl,hd,kt,q⟩:=h
 unfold vN
 walk_at "rl"
 rcases ua t with ⟨xs,rfl,e⟩|⟨hn,e⟩
 ·rw[e]
  walk_at "rl"
  have q':Qd (.v (.bool (decide (1<=xs.length)&&(decide (xs.length<=3)&&xs.all (iT d))))) U:=q
  by_cases h1:((xs.length:Nat):Int)<1
  ·rw[if_pos (by simpa using h1)]
   rw[decide_eq_false (show ¬ 1<=xs.length by omega),Bool.false_and] at q'
   exact q'
  ·rw[rB (by simpa using h1)]
   walk_at "rl"
   by_cases h3:(3:Int)<((xs.length:Nat):Int)
   ·rw[tH (by simpa using h3)]
    rw[decide_eq_false (show ¬ xs.length<=3 by omega),Bool.false_and,Bool.and_false] at q'
    exact q'
   ·rw[rB (by simpa using h3)]
    walk_at "rl"
    rw[II]
    walk_at "rl"
    rw[decide_eq_true (show 1<=xs.length by omega),decide_eq_true (show xs.length<=3 by omega),Bool.true_and,Bool.true_and] at q'
    refine⟨∅,fun x=>some (.bool (iT d x)),fun x hx Y hs=>⟨⟨trivial,trivial⟩,?_⟩,?_⟩
    ·have p:=kt.2 ∅ x hx
     exact⟨d,x,rfl,hd,p.1,p.2,rfl,rfl⟩
    ·rw[Vg]
     dsimp only
     rw[List.all_map]
     exact q'
 ·rw[e]
  walk_at "rl"
  have:uc d t=false:=by cases t<;>first|rfl|exact absurd rfl (hn _)
  rw[this] at q
  exact q
theorem ON{d:Int}{ks:List N3}(h:Iv d ks):uc d (.tuple (ks.map dN))=true:=by
 show (decide (1<=(ks.map dN).length)&&(decide ((ks.map dN).length<=3)&&(ks.map dN).all (iT d)))=true
 rw[length_map,decide_eq_true h.l1,decide_eq_true h.l3,Bool.true_and,Bool.true_and,List.all_map,all_eq_true]
 intro k hk
 obtain⟨ok,_,sk⟩:=h.ok k hk
 show iT d (dN k)=true
 rw[wu ok,sk]
 rfl
theorem WV{d:Int}{ks:List N3}(h:Iv d ks):KT d (.tuple (ks.map dN)):=by
 refine⟨by rw[length_map];have:=h.l3;omega,fun _ x hx=>?_⟩
 obtain⟨k,hk,rfl⟩:=List.mem_map.mp hx
 exact⟨G3,fun y e=>by rw[<- IU e];exact (h.ok k hk).2.1.mono ⋯⟩
theorem BN(h:dQ ds U Qd):mr ‹Qd› (aS ["",""] ds) U:=by
 obtain⟨d,ks,rfl,hd,l1,l3,hk,q⟩:=h
 have ho:Iv d ks:=⟨l1,l3,hk⟩
 unfold mr
 walk_at "rl"
 refine⟨d,_,rfl,hd,WV ho,?_⟩
 rw[ON ho]
 exact q
theorem qN{Xk:Mu->Prop}(h:pX ds U Xk):fg (aS ["",""] ds) U Xk:=by
 obtain⟨d,t,rfl,hd,kt,hf,q⟩:=h
 unfold fg
 rw[J5]
 walk_at "rl"
 refine⟨d,t,rfl,hd,kt,?_⟩
 rw[hf]
 exact q
theorem NY{α:Type}(xs:List α)(lo hi:Option Int):(oR xs lo hi).length<=xs.length:=by
 unfold oR
 rw[length_take,List.length_drop]
 omega
theorem N9{xs:List PyData}{lo hi:Option Int}{x:PyData}(h:x∈oR xs lo hi):x∈xs:=by
 unfold oR at h
 exact List.mem_of_mem_drop (List.mem_of_mem_take h)
theorem Oh{d:Int}{ks:List N3}(ho:KindsOk d ks){x:PyData}(h:x∈ks.map dN):Ua d x:=by
 obtain⟨k,hk,rfl⟩:=List.mem_map.mp h
 exact⟨G3,fun y e=>by rw[<- IU e];exact (ho.ok k hk).2.1.mono ⋯⟩
theorem Q9{d:Int}{xs:List PyData}(h:3<xs.length)(h2:xs.length<=1000):KT d (.tuple xs)/\uc d (.tuple xs)=false:=by
 refine⟨⟨h2,fun z=>absurd z ∅⟩,?_⟩
 show (decide (1<=xs.length)&&(decide (xs.length<=3)&&xs.all (iT d)))=false
 rw[decide_eq_false (show ¬ xs.length<=3 by omega),Bool.false_and,Bool.and_false]
theorem Yt{ks:List PyData}{r:Int}(l1:1<=ks.length)(l3:ks.length<=3)(r0:0<=r)(r1:r<(ks.length:Nat)):3<(oR (ks++ks++ks++ks) none (some (4+r))).length:=by
 have hr:r=0\/r=1\/r=2:=by omega
 match ks,l1,l3 with
 |[a],_,_=>rcases hr with rfl|rfl|rfl<;>first|(simp at r1;done)|exact (by decide:3<4)
 |[a,b],_,_=>rcases hr with rfl|rfl|rfl<;>first|(simp at r1;done)|exact (by decide:3<4)|exact (by decide:3<5)
 |[a,b,c],_,_=>rcases hr with rfl|rfl|rfl<;>first|exact (by decide:3<4)|exact (by decide:3<5)|exact (by decide:3<6)
theorem zR(h:uh ds U Qd):kF ‹Qd› (aS ["","","","",""] ds) U:=by
 obtain⟨a,d,ks,rfl,hd,ho,hb,q⟩:=h
 have l1:=ho.l1
 have l3:=ho.l3
 unfold kF
 walk_at "rl"
 rw[length_map]
 refine⟨a,_,rfl,∅,∅,hb,fun r ac r0 r1 s1=>?_⟩
 walk_at "rl"
 refine⟨a,8,rfl,⋯,⋯,s1.1,fun w ad w0 w1 s2=>?_⟩
 walk_at "rl"
 by_cases hw:w<5
 ·rw[tH (by simpa using hw)]
  walk_at "rl"
  refine⟨a,d,rfl,hd,s2.1,fun t ap t1 t2 t3 s3=>?_⟩
  walk_at "rl"
  have L:∀lo hi:Option Int,(oR (List.map dN ks) lo hi).length<=3:=fun lo hi=>le_trans (NY _ lo hi) (by rw[length_map];exact l3)
  have c1:=L none (some r)
  have c2:=L (some (r+1)) none
  refine⟨∅,by simp;omega,?_⟩
  refine q _ _ ⟨by simp;omega,fun _ x hx=>?_⟩ ?_ (s1.trans (s2.trans s3))
  ·rcases List.mem_append.mp hx with hx|hx
   ·rcases List.mem_append.mp hx with hx|hx
    ·exact Oh ho (N9 hx)
    ·cases List.mem_singleton.mp hx
     exact⟨t1,t2⟩
   ·exact Oh ho (N9 hx)
  ·have e:(oR (List.map dN ks) none (some r)++[t]++oR (List.map dN ks) (some (r+1)) none).all (iT d)=false:=by
    rw[List.all_append,List.all_append]
    show ((_&&(iT d t&&true))&&_)=false
    rw[t3,Bool.false_and,Bool.and_false,Bool.false_and]
   show (_&&(_&&_))=false
   rw[e,Bool.and_false,Bool.and_false]
 ·rw[rB (by simpa using hw)]
  walk_at "rl"
  have e4:(List.map dN ks++List.map dN ks++List.map dN ks++List.map dN ks).length<=12:=by simp;omega
  have b4:=Q9 (d:=d) (Yt (ks:=List.map dN ks) (r:=r) (by rw[length_map];exact l1) (by rw[length_map];exact l3) r0 (by rw[length_map];exact r1)) (le_trans (NY _ none (some (4+r))) ∅)
  refine⟨by simp;omega,by simp;omega,by simp;omega,?_⟩
  have hw3:w=5\/w=6\/w=7:=by omega
  rcases hw3 with rfl|rfl|rfl
  ·exact q _ _ ⟨⋯,fun _ x hx=>nomatch hx⟩ rfl (s1.trans s2)
  ·exact q _ _ b4.1 b4.2 (s1.trans s2)
  ·exact q _ _ trivial rfl (s1.trans s2)
end
inductive TP:Nat->PyData->Int->Prop
 |kind {n:Nat} (i:Int):TP (n+1) (.tuple [.str "kind",.int i]) 1
 |turn {n:Nat} {t:PyData} {x:Int}:TP n t x->TP (n+1) (.tuple [.str "turn",t]) x
 |grid {n:Nat} {t:PyData} {x:Int} (u v:Int):1<=u->1<=v->Sz 110 u->Sz 110 v->n<=12->TP n t x->TP (n+1) (.tuple [.str "grid",.int u,.int v,t]) (u*v*x)
 |upon {n:Nat} (es:List (PyData×Int)):2<=es.length->es.length<=8->(∀e∈es,TP n e.1 e.2)->TP (n+1) (.tuple [.str "upon",.tuple (es.map (·.1))]) ((es.map (·.2)).sum)
 |beside {n:Nat} (es:List (PyData×Int)):2<=es.length->es.length<=8->(∀e∈es,TP n e.1 e.2)->TP (n+1) (.tuple [.str "beside",.tuple (es.map (·.1))]) ((es.map (·.2)).sum)
theorem NN{k:Nat}:∀(l:List Int) (m:Nat),l.length<=m->(∀x∈l,Sz k x)->Sz (k+m) l.sum
 |[],m,_,_=>Sz.of (by simp;exact Nat.pow_pos ⋯)
 |x::l,m,h,hx=>by
  obtain⟨m,rfl⟩:∃m',m=m'+1:=⟨m-1,by have:=h;simp at this;omega⟩
  rw[sum_cons]
  have ih:=NN l m (by simpa using h) fun y hy=>hx y (mem_cons_of_mem _ hy)
  exact ((hx x mem_cons_self).mono (Nat.le_add_right _ _)).add ih
theorem TP.sz{n:Nat}{t:PyData}{x:Int}(h:TP n t x):Sz (230*n) x:=by
 induction h with
 |kind i=>exact (Sz.of (n:=1) ⋯).mono ∅
 |turn _ ih=>exact ih.mono ∅
 |grid u v _ _ hu hv _ _ ih=>exact ((hu.mul hv).mul ih).mono ∅
 |upon es _ h8 _ ih=>exact (NN _ 8 (by rw[length_map];exact h8) (fun x hx=>by obtain⟨e,he,rfl⟩:=List.mem_map.mp hx;exact ih e he)).mono ∅
 |beside es _ h8 _ ih=>exact (NN _ 8 (by rw[length_map];exact h8) (fun x hx=>by obtain⟨e,he,rfl⟩:=List.mem_map.mp hx;exact ih e he)).mono ∅
noncomputable def jD:DSp:=fun ds U Q=>∃(t:PyData) (m:Int),ds=[.v t,.v (.int m)]/\Sh t/\okN (cnt m 12 t)=true/\∀Y,(∀b ds,U b=some ds->Y b=some ds)->Q (.v .none) Y
theorem Em{U:Mu}{Q:DK}{ds:List D}(h:jD ds U Q):ds.length=2:=by obtain⟨_,_,rfl,_⟩:=h;rfl
noncomputable def kv(n:Nat):DSp:=fun ds U Q=>∃(t:PyData) (x:Int),ds=[.v t]/\Sh t/\TP n t x/\∀Y,(∀b ds,U b=some ds->Y b=some ds)->Q (.v (.int x)) Y
theorem Kd{n:Nat}{U:Mu}{Q:DK}{ds:List D}(h:kv n ds U Q):ds.length=1:=by obtain⟨_,_,rfl,_⟩:=h;rfl
theorem LM{U:Mu}{Q:DK}{ds:List D}(h:kv 0 ds U Q):False:=by obtain⟨_,_,_,_,h,_⟩:=h;cases h
noncomputable def ig:XSp:=fun ds U Xk=>∃(t:PyData) (m:Int),ds=[.v t,.v (.int m)]/\Sh t/\okN (cnt m 12 t)=false/\∀Y,(∀b ds,U b=some ds->Y b=some ds)->Xk Y
theorem A5{ds:List D}{U:Mu}{Xk:Mu->Prop}(h:ig ds U Xk):ds.length=2:=by obtain⟨_,_,rfl,_⟩:=h;rfl
noncomputable def Du:DSp:=fun ds U Q=>∃(a:Addr) (t:PyData) (m:Int) (d c:Nat),ds=[.m a,.v t,.v (.int m)]/\0<=m/\Bag U a/\IsP m d c t/\d<=12/\∀x Y,Sh x->okN (cnt m 12 x)=false->kx a U Y->Q (.v x) Y
theorem Lf{U:Mu}{Q:DK}{ds:List D}(h:Du ds U Q):ds.length=3:=by obtain⟨_,_,_,_,_,rfl,_⟩:=h;rfl
noncomputable def oF:DTS:=
 (cZ (iQ (dB (aB tJ (ae (ag 0) (ae (ag 1) ai))))) Bq cg)
noncomputable def fY:DTX:=
 (xIf (iQ (dB (aB tJ (ae (ag 0) (ae (ag 1) ai))))) (fun _ U Xk=>Xk U) BG)
noncomputable def kb(ea:Addr):DTS:=
 (aY (bJ (ff (ae (bj (ae (dC (.str "NoRoot")) (ae (cF ea false (ag 1)) ai))) (ae (bj (ae (dC (.str "NoNumber")) (ae (cF ea false (ag 1)) ai))) (ae (bj (ae (dC (.str "NoLaying")) (ae (cF ea false (ag 1)) ai))) (ae (bj (ae (dC (.str "NoTile")) (ae (cF ea false (ag 1)) ai))) (ae (bj (ae (dC (.str "NoFit")) (ae (cF ea false (ag 1)) ai))) (ae (bj (ae (dC (.str "NoKinds")) (ae (cF ea false (ag 1)) ai))) (ae (bj (ae (dC (.str "NoPlan")) (ae (cF ea true (ag 1)) ai))) (ae (bj (ae (dC (.str "NoSpot")) (ae (cF ea false (ag 1)) ai))) (ae (bj (ae (dC (.str "NoNet")) (ae (cF ea false (ag 1)) ai))) (ae (bj (ae (dC (.str "NoText")) (ae (cF ea false (ag 1)) ai))) (ae (bj (ae (dC (.str "NoSaying")) (ae (cF ea false (ag 1)) ai))) (ae (bj (ae (dC (.str "NoName")) (ae (cF ea false (ag 1)) ai))) (ae (bj (ae (dC (.str "TooMany")) (ae (cF ea false (ag 1)) ai))) ai)))))))))))))) (ar 2))
 (aY (bJ (dJ [none,none] (gb (ag 2)) (iP 2 (bS (ar 0) (bS (ar 1) i7))) (dB (ag 1)) (ag 0)) (ar 3))
 (aY (cZ (lL (dB (dOp (cW false) (dCB cI (ae (ag 3) ai)) (dC (.int 1)))) (dB (cF ea true (ag 1)))) (bM (dOp aI (ag 3) (dC (.int 0)))) cg)
 (bM (dC (.str "several"))))))
noncomputable def vE(n:Nat):DTS:=
 (aY (bJ (dOp aI (ag 0) (dC (.int 0))) (ar 1))
 (aY (cZ (dB (dOp (cW false) (ag 1) (dC (.str "kind")))) (bM (dC (.int 1))) cg)
 (aY (bJ (dCB DH (ae (dJ [none] (gb (aB xC (ae (ag 0) ai))) (ar 0) jb (aB (kv n) (ae (ag 0) ai))) ai)) (ar 2))
 (bM (dIf (dB (dOp (cW false) (ag 1) (dC (.str "grid")))) (du (du (dOp aI (ag 0) (dC (.int 1))) (dOp aI (ag 0) (dC (.int 2)))) (ag 2)) (ag 2))))))
noncomputable def kQ:DTS:=
 (aY (bJ (aB (hE 12) (ae (ag 0) (ae (ag 1) (ae (ag 2) ai)))) (ar 3))
 (bM (dOp aI (ff (ae (ag 3) (ae (bj (ae (dC (.str "kind")) (ae (ag 2) ai))) ai))) (dCB vk (ae (aB xm (ae (ag 3) (ae (ag 2) ai))) ai)))))
section
variable {U:Mu}{Qd:DK}{ds:List D}{ρ:Rho}{n:Nat}
theorem C2(h:jD ds U Qd):oF ‹Qd› (aS ["",""] ds) U:=by
 obtain⟨t,m,rfl,hs,ho,q⟩:=h
 unfold oF
 walk_at "rl"
 refine⟨t,m,rfl,hs,fun Y k=>?_⟩
 walk_at "rl"
 rw[ho]
 simp only[Bool.not_true,false_eq_true,↓reduceIte]
 exact q Y k
theorem u5{U:Mu}{Qd:DK}{ea fa:Addr}(q:Qd (.v (.str "NoPlan")) U):kb ea {nx:=fun _ _=>False,rt:=Qd} [some (.o fa),some (.o ea),none,none] U:=by
 unfold kb
 simp only[↓qF,↓Fe,↓CG,↓Cq,↓gv,↓kf,↓q_c,↓rX,↓CS,↓CQ,↓eW,map_some,set_cons_zero,set_cons_succ]
 refine wK (ns:=[("NoRoot",false),("NoNumber",false),("NoLaying",false),("NoTile",false),("NoFit",false),("NoKinds",false),("NoPlan",true),("NoSpot",false),("NoNet",false),("NoText",false),("NoSaying",false),("NoName",false),("TooMany",false)]) rfl ⋯ ?_
 simp only[↓eW,↓qF,set_cons_zero,set_cons_succ,map_cons,map_nil,filterMap_cons,List.filterMap_nil,Jq,false_eq_true,↓reduceIte]
 simp only[↓D0,↓yj,↓q_B,↓Mr,↓Ke,↓gv,↓kf,↓wX,↓wa,↓q_c,↓Ct,↓rX,↓CD,↓wo,getElem?_cons_zero,getElem?_cons_succ,length_cons,length_nil]
 exact q
theorem sj{Xk:Mu->Prop}(h:ig ds U Xk):fY (aS ["",""] ds) U Xk:=by
 obtain⟨t,m,rfl,hs,ho,q⟩:=h
 unfold fY
 rw[J5]
 walk_at "rl"
 refine⟨t,m,rfl,hs,fun Y k=>?_⟩
 rw[ho]
 exact q Y k
theorem Ea:∀(l:List Int),dz (l.map PyData.int)=some l
 |[]=>rfl
 |x::l=>by
  rw[map_cons]
  show dz (PyData.int x::_)=_
  unfold dz
  rw[Ea l]
  rfl
theorem uJ{src:DTI}{es:List (PyData×Int)}(hs:∀QI:List PyData->Mu->Prop,QI (es.map (·.1)) U->src ρ U QI)(hl:es.length<=8)
  (hh:∀e∈es,Sh e.1/\TP n e.1 e.2) (q:∀Y,(∀b ds,U b=some ds->Y b=some ds)->Qd (.v (.list ((es.map (·.2)).map .int))) Y) :
  dJ [none] src (ar 0) jb (aB (kv n) (ae (ag 0) ai)) ρ U Qd:=by
 rw[rE]
 refine hs _ ⟨by rw[length_map];omega,fun p hp=>⟨fun i acc Y=>acc=((es.take i).map (·.2)).map .int/\∀b ds,b≠p->U b=some ds->Y b=some ds,⟨by simp,fun b ds hb e=>by rw[bR hb];exact e⟩,?_,?_⟩⟩
 ·rintro i x acc Y hx hacc ⟨rfl,hk⟩
  rw[getElem?_map] at hx
  obtain⟨e,he,rfl⟩:∃e,es[i]? = some e/\e.1=x:=by
   cases z:es[i]? with
   |none=>rw[z] at hx;cases hx
   |some e=>rw[z] at hx;exact⟨e,rfl,by simpa using hx⟩
  have hm:=hh e (mem_of_getElem? he)
  simp only[eW,xh,wx,bind_some,bind_none,join_some,set_cons_zero,wd,↓reduceIte,Ck,Es,CL,true_and,and_true,AY,gv,kf,x6,yJ,A7]
  refine⟨e.1,e.2,rfl,hm.1,hm.2,fun ce h4=>⟨h4 _ _ hacc,?_,fun b ds hb e'=>by rw[bR hb];exact h4 b ds (hk b ds hb e')⟩⟩
  rw[take_succ,he];simp
 ·rintro acc Y ⟨rfl,hk⟩ hacc
  rw[length_map,take_length]
  exact q _ fun b ds e=>by
   have hb:b≠p:=fun z=>by rw[z,hp] at e;cases e
   rw[sF hb];exact hk b ds hb e
theorem Kv(n:Nat)(h:kv (n+1) ds U Qd):vE n ‹Qd› (aS ["","",""] ds) U:=by
 obtain⟨t,x,rfl,hs,tp,q⟩:=h
 unfold vE
 cases tp with
 |kind i=>
  walk_at "rl"
  exact q U fun _ _ e=>e
 |@turn _ t' y h1=>
  walk_at "rl"
  refine uJ (es:=[(t',x)]) (fun QI hq=>?_) (by simp) (fun e he=>by rw[List.mem_singleton.mp he];exact⟨hs.mem t' (by simp),h1⟩) fun ac k1=>?_
  ·walk_at "rl"
   exact⟨_,1,[t'],rfl,hs,by show eN 1 (.str "turn") t'=_;unfold eN;rw[if_neg (by rw[SO];decide),if_pos TM],hq⟩
  walk_at "rl"
  simp only[sum_cons,sum_nil,Int.add_zero]
  exact q ac k1
 |@grid _ t' y u v hu hv hu' hv' hn h1=>
  walk_at "rl"
  refine uJ (es:=[(t',y)]) (fun QI hq=>?_) (by simp) (fun e he=>by rw[List.mem_singleton.mp he];exact⟨hs.mem t' (by simp),h1⟩) fun ac k1=>?_
  ·walk_at "rl"
   refine⟨_,1,[t'],rfl,hs,?_,hq⟩
   show qV (.str "grid") (.int u) (.int v) t'=_
   unfold qV
   rw[if_pos Qm,if_pos]
   show ((true&&decide (1<=u))&&(true&&decide (1<=v)))=true
   rw[decide_eq_true hu,decide_eq_true hv];rfl
  walk_at "rl"
  simp only[sum_cons,sum_nil,Int.add_zero]
  exact⟨kZ hu' hv' ⋯,kZ (hu'.mul hv') h1.sz ∅,q ac k1⟩
 |@upon _ es h2 h8 hh=>
  walk_at "rl"
  have hp:∀e∈es,Sh e.1:=fun e he=>(hs.mem (.tuple (es.map (·.1))) (by simp)).mem e.1 (mem_map_of_mem he)
  refine uJ (es:=es) (fun QI hq=>?_) h8 (fun e he=>⟨hp e he,hh e he⟩) fun ac k1=>?_
  ·walk_at "rl"
   exact⟨_,1,_,rfl,hs,pR (.inl rfl) (by simpa using h2) (by simpa using h8),hq⟩
  walk_at "rl"
  simp only[Ea]
  exact q ac k1
 |@beside _ es h2 h8 hh=>
  walk_at "rl"
  have hp:∀e∈es,Sh e.1:=fun e he=>(hs.mem (.tuple (es.map (·.1))) (by simp)).mem e.1 (mem_map_of_mem he)
  refine uJ (es:=es) (fun QI hq=>?_) h8 (fun e he=>⟨hp e he,hh e he⟩) fun ac k1=>?_
  ·walk_at "rl"
   exact⟨_,1,_,rfl,hs,pR (.inr rfl) (by simpa using h2) (by simpa using h8),hq⟩
  walk_at "rl"
  simp only[Ea]
  exact q ac k1
theorem RZ(m:Int):okN (cnt m 12 (.tuple [.str "kind",.int m]))=false:=by
 have e:oD m (.tuple [.str "kind",.int m])=none:=by
  show eN m (.str "kind") (.int m)=none
  unfold eN
  rw[if_pos Wi,if_neg]
  show ¬ ((true&&decide (0<=m))&&decide (m<m))=true
  rw[decide_eq_false (Int.lt_irrefl m),Bool.and_false]
  decide
 unfold cnt
 rw[e]
 rfl
theorem Af(h:Du ds U Qd):kQ ‹Qd› (aS ["","","",""] ds) U:=by
 obtain⟨a,t,m,d,c,rfl,hm,hb,hp,hd,q⟩:=h
 unfold kQ
 walk_at "rl"
 refine⟨a,t,m,d,c,rfl,hb,hp,hd,fun x ac hx s1=>?_⟩
 have sx:Sh x:=hx.sh ⋯
 walk_at "rl"
 refine⟨x,m,rfl,sx,fun ad k2=>?_⟩
 have s2:kx a U ad:=by
  obtain⟨g,w,e,z⟩:=s1.1
  exact⟨⟨g,w,k2 _ _ e,z⟩,fun b hb ds e=>k2 b ds (by rw[s1.2 b hb];exact e)⟩
 cases e:okN (cnt m 12 x) with
 |true=>
  walk_at "rl"
  exact q _ _ ((IsP.kind (m:=m+1) m hm ∅).lt.sh ⋯) (RZ m) s2
 |false=>
  walk_at "rl"
  exact q _ _ sx e s2
end
def BO(l:List N3):N3:=l.foldl plus bL
noncomputable def PN(l:List N3):Prop:=(∀x∈l,Ok x/\Bd 4300 x)/\∀j,Bd 4300 (BO (l.take j))
noncomputable def Au:DSp:=fun ds U Q=>∃l:List N3,ds=[.v (.list (l.map dN))]/\l.length<=100/\PN l/\Q (.v (dN (BO l))) U
theorem Hm{U:Mu}{Q:DK}{ds:List D}(h:Au ds U Q):ds.length=1:=by obtain⟨_,rfl,_⟩:=h;rfl
noncomputable def BJ:DTS:=
 (aY (bJ (dC (.tuple [.int 0,.int 0,.int 1])) (ar 1))
 (aY (GR (gb (ag 0)) (ar 2) (bJ (aB qd (ae (ag 1) (ae (ag 2) ai))) (ar 1)))
 (bM (ag 1))))
noncomputable def Cv:DTS:=
 (aY (bJ (bj (ae (dC (.int 0)) (ae (dC (.int 0)) (ae (dC (.int 1)) ai)))) (ar 1))
 (aY (GR (gb (ag 0)) (ar 2) (bJ (aB qd (ae (ag 1) (ae (ag 2) ai))) (ar 1)))
 (bM (ag 1))))
section
variable {U:Mu}{Qd:DK}{ds:List D}
theorem QK{l:List N3}{i:Nat}{x:N3}(h:l[i]? = some x):BO (l.take (i+1))=plus (BO (l.take i)) x:=by
 unfold BO
 rw[take_succ,h]
 simp
theorem HP{l:List N3}(h:∀x∈l,Ok x):Ok (BO l):=by
 unfold BO
 have key:∀(l:List N3) (a:N3),Ok a->(∀x∈l,Ok x)->Ok (l.foldl plus a):=fun l=>by
  induction l with
  |nil=>exact fun a oa _=>oa
  |cons x r ih=>exact fun a oa h=>ih _ (gM oa (h x (by simp))) fun y hy=>h y (by simp[hy])
 exact key l _ fV h
theorem PN.ok{l:List N3}(h:PN l)(j:Nat):Ok (BO (l.take j)):=HP fun x hx=>(h.1 x (List.mem_of_mem_take hx)).1
theorem Xd{l:List N3}{i:Nat}{x:PyData}(h:(l.map dN)[i]? = some x):∃y,l[i]? = some y/\x=dN y:=by
 rw[getElem?_map] at h
 cases e:l[i]? with
 |none=>rw[e] at h;cases h
 |some y=>rw[e] at h;exact⟨y,rfl,by simpa using h.symm⟩
theorem Hr(h:Au ds U Qd):BJ ‹Qd› (aS ["","",""] ds) U:=by
 obtain⟨l,rfl,hl,hs,q⟩:=h
 unfold BJ
 walk_at "rl"
 rw[EH]
 walk_at "rl"
 refine⟨fun i ρ Y=>∃r2,ρ=[some (.v (.list (l.map dN))),some (.v (dN (BO (l.take i)))),r2]/\Y=U,⟨_,rfl,rfl⟩,?_,?_⟩
 ·rintro i x ρ Y hx ⟨r2,rfl,rfl⟩
  obtain⟨y,hy,rfl⟩:=Xd hx
  have hm:=hs.1 y (mem_of_getElem? hy)
  walk_at "rl"
  refine⟨_,y,rfl,hs.ok i,hm.1,hs.2 i,hm.2,?_⟩
  walk_at "rl"
  exact⟨_,by rw[QK hy],trivial⟩
 ·rintro ρ Y ⟨r2,rfl,rfl⟩
  walk_at "rl"
  rw[length_map,take_length]
  exact q
theorem KI(h:Au ds U Qd):Cv ‹Qd› (aS ["","",""] ds) U:=Hr h
end
noncomputable def G(d:Int)(x:N3):Prop:=Ok x/\norm d x≠0/\Bd 4300 x
inductive SP(d:Int)(ks:List N3):Nat->PyData->N3->Prop
 |kind {n:Nat} (i:Int) (k:N3):0<=i->i<(ks.length:Nat)->ks[i.toNat]? = some k->SP d ks (n+1) (.tuple [.str "kind",.int i]) k
 |turn {n:Nat} {t:PyData} {x:N3}:SP d ks n t x->G d x->SP d ks (n+1) (.tuple [.str "turn",t]) (bV d x)
 |grid {n:Nat} {t:PyData} {x:N3} (u v:Int):1<=u->1<=v->u<=1000000->v<=1000000->SP d ks n t x->Ok x->Bd 4300 x->SP d ks (n+1) (.tuple [.str "grid",.int u,.int v,t]) (times d x (low v 0 u))
 |upon {n:Nat} (es:List (PyData×N3)):2<=es.length->es.length<=8->(∀e∈es,SP d ks n e.1 e.2)->PN (es.map (·.2))->SP d ks (n+1) (.tuple [.str "upon",.tuple (es.map (·.1))]) (BO (es.map (·.2)))
 |beside {n:Nat} (es:List (PyData×N3)):2<=es.length->es.length<=8->(∀e∈es,SP d ks n e.1 e.2)->(∀e∈es,G d e.2)->PN ((es.map (·.2)).map (bV d))->G d (BO ((es.map (·.2)).map (bV d))) ->
   SP d ks (n+1) (.tuple [.str "beside",.tuple (es.map (·.1))]) (bV d (BO ((es.map (·.2)).map (bV d))))
section
variable {d:Int}{ks:List N3}{n:Nat}{t:PyData}{x:N3}
theorem IW(hd:Sz 5 d){w:Nat}:∀(ys:List (Nat×N3)) (a:N3) (k:Nat),Ok a->Ht d k a->(∀y∈ys,Ok y.2/\1<=y.1/\Ht d (y.1*w-7) y.2)->26<=w->Ht d (k+(ys.map (·.1)).sum*w) ((ys.map (·.2)).foldl plus a)
 |[],a,k,_,h,_,_=>h.mono (by simp)
 |y::r,a,k,oa,h,g,hw=>by
  obtain⟨oy,c1,hy⟩:=g y (by simp)
  have h1:Ht d (k+y.1*w) (plus a y.2):=(R9 hd oa oy h hy).mono (by have:7<=y.1*w:=le_trans (by omega:7<=1*w) (Nat.mul_le_mul_right w c1);omega)
  have:=IW hd r (plus a y.2) _ (gM oa oy) h1 (fun z hz=>g z (by simp[hz])) hw
  rw[map_cons,map_cons,sum_cons,List.foldl_cons,Nat.add_mul,<- Nat.add_assoc]
  exact this
theorem K4(h:bu d):∀(l:List N3) (a:N3),Ok a->(a=bL\/sg d a.a a.b=1)->(∀x∈l,Ok x/\sg d x.a x.b=1)->l≠[]->sg d (l.foldl plus a).a (l.foldl plus a).b=1
 |[],_,_,_,_,n=>absurd rfl n
 |[x],a,oa,ha,g,_=>EM h oa (g x (by simp)).1 ha (g x (by simp)).2
 |x::y::r,a,oa,ha,g,_=>K4 h (y::r) (plus a x) (gM oa (g x (by simp)).1) (.inr (EM h oa (g x (by simp)).1 ha (g x (by simp)).2)) (fun z hz=>g z (by simp[hz])) (by simp)
theorem EB{α β:Type}{R:α->β->Prop}:∀(l:List α),(∀e∈l,∃x,R e x)->∃ys:List (α×β),ys.map (·.1)=l/\∀y∈ys,R y.1 y.2
 |[],_=>⟨[],rfl,fun _ z=>nomatch z⟩
 |e::r,h=>by
  obtain⟨x,hx⟩:=h e (by simp)
  obtain⟨ys,h1,h2⟩:=EB r fun e' he'=>h e' (by simp[he'])
  refine⟨(e,x)::ys,by rw[map_cons,h1],fun y hy=>?_⟩
  rcases List.mem_cons.mp hy with z|z
  ·rw[z];exact hx
  ·exact h2 y z
structure A9(d:Int)(w c:Nat)(x:N3):Prop where
 ok:Ok x
 pos:sg d x.a x.b=1
 ht:Ht d (c*w-7) x
theorem A9.g{w c:Nat}(h:bu d)(f:A9 d w c x)(hc:c*w<=2140):G d x:=⟨f.ok,vL h f.ok f.pos,(NR (Ba h.1 h.2.1) f.ok f.ht).mono ∅⟩
theorem A9.con{w c:Nat}(h:bu d)(f:A9 d w c x):A9 d w c (bV d x):=⟨j0 (vL h f.ok f.pos),CC h f.ok f.pos,K1 f.ok (vL h f.ok f.pos) f.ht⟩
theorem LX(h:bu d){w:Nat}(hw:26<=w)(ys:List (Nat×N3))(hy:∀y∈ys,1<=y.1/\A9 d w y.1 y.2)(hc:((ys.map (·.1)).sum+1)*w<=2140)(hne:ys≠[]) :
  PN (ys.map (·.2))/\A9 d w ((ys.map (·.1)).sum+1) (BO (ys.map (·.2))):=by
 have hd:Sz 5 d:=Ba h.1 h.2.1
 have ht0:Ht d 1 bL:=NZ fV ⟨Sz.of ⋯,Sz.of ⋯,Sz.of ⋯⟩
 have all:∀y∈ys,Ok y.2/\1<=y.1/\Ht d (y.1*w-7) y.2:=fun y z=>⟨(hy y z).2.ok,(hy y z).1,(hy y z).2.ht⟩
 have tot:=IW hd ys bL 1 fV ht0 all hw
 have e1:((ys.map (·.1)).sum+1)*w=(ys.map (·.1)).sum*w+w:=by rw[Nat.add_mul,Nat.one_mul]
 have oks:∀x∈ys.map (·.2),Ok x:=fun x hx=>by obtain⟨y,z,rfl⟩:=List.mem_map.mp hx;exact (hy y z).2.ok
 have le_sum:∀(l:List (Nat×N3)) y,y∈l->y.1<=(l.map (·.1)).sum:=fun l=>by
  induction l with
  |nil=>exact fun y z=>(nomatch z)
  |cons a r ih=>
    intro y z
    rw[map_cons,sum_cons]
    rcases List.mem_cons.mp z with q|q
    ·rw[q];omega
    ·have:=ih y q;omega
 have take_le:∀(l:List (Nat×N3)) (j:Nat),((l.take j).map (·.1)).sum<=(l.map (·.1)).sum:=fun l=>by
  induction l with
  |nil=>intro j;simp
  |cons a r ih=>intro j;cases j with
   |zero=>simp
   |succ j=>rw[List.take_succ_cons,map_cons,map_cons,sum_cons,sum_cons];have:=ih j;omega
 refine⟨⟨fun x hx=>?_,fun j=>?_⟩,HP oks,K4 h _ _ fV (.inl rfl) (fun x hx=>?_) (by simpa using hne),tot.mono ∅⟩
 ·obtain⟨y,z,rfl⟩:=List.mem_map.mp hx
  have:=le_sum ys y z
  have m1:y.1*w<=(ys.map (·.1)).sum*w:=Nat.mul_le_mul_right w this
  exact⟨(hy y z).2.ok,(NR hd (hy y z).2.ok (hy y z).2.ht).mono ∅⟩
 ·have t1:=IW hd (ys.take j) bL 1 fV ht0 (fun y z=>all y (List.mem_of_mem_take z)) hw
  have m1:((ys.take j).map (·.1)).sum*w<=(ys.map (·.1)).sum*w:=Nat.mul_le_mul_right w (take_le ys j)
  rw[<- List.map_take]
  exact (NR hd (HP fun x hx=>oks x (by rw[List.map_take] at hx;exact List.mem_of_mem_take hx)) t1).mono ∅
 ·obtain⟨y,z,rfl⟩:=List.mem_map.mp hx
  exact⟨(hy y z).2.ok,(hy y z).2.pos⟩
theorem Hf{α β γ:Type}{f:α->β}{g:α->γ}{zs:List α}(h:2<=(zs.map f).length):zs.map g≠[]:=fun q=>by
 have:zs=[]:=by simpa using q
 subst this
 simp at h
theorem W8(h:bu d){w:Nat}(hw:26<=w)(hk:∀k∈ks,A9 d w 1 k){dd c:Nat}(p:IsP (ks.length:Nat) dd c t):c*w<=2140->∀n,dd<=n->∃x,SP d ks n t x/\A9 d w c x:=by
 have hd:Sz 5 d:=Ba h.1 h.2.1
 have many:∀{n:Nat} (es:List (Nat×Nat×PyData)) (d0:Nat),2<=es.length->(∀e∈es,e.1<=d0)->(∀e∈es,IsP (ks.length:Nat) e.1 e.2.1 e.2.2)->(∀e∈es,e.2.1*w<=2140->∀n,e.1<=n->∃x,SP d ks n e.2.2 x/\A9 d w e.2.1 x)->((es.map (·.2.1)).sum+1)*w<=2140->d0<=n ->
   ∃zs:List ((Nat×Nat×PyData)×N3),zs.map (·.1)=es/\∀z∈zs,SP d ks n z.1.2.2 z.2/\A9 d w z.1.2.1 z.2/\1<=z.1.2.1:=fun {n} es d0 _ he hp ih hc hn=>by
  have le_sum:∀(l:List (Nat×Nat×PyData)) e,e∈l->e.2.1<=(l.map (·.2.1)).sum:=fun l=>by
   induction l with
   |nil=>exact fun y z=>(nomatch z)
   |cons a r ih=>
     intro y z
     rw[map_cons,sum_cons]
     rcases List.mem_cons.mp z with q|q
     ·rw[q];omega
     ·have:=ih y q;omega
  refine EB (R:=fun e x=>SP d ks n e.2.2 x/\A9 d w e.2.1 x/\1<=e.2.1) es fun e hee=>?_
  have m1:e.2.1*w<=((es.map (·.2.1)).sum+1)*w:=Nat.mul_le_mul_right w (by have:=le_sum es e hee;omega)
  obtain⟨x,h1,h2⟩:=ih e hee ∅ n (by have:=he e hee;omega)
  exact⟨x,h1,h2,(hp e hee).pos.2⟩
 induction p with
 |kind i i0 i1=>
  intro _ n hn
  obtain⟨n,rfl⟩:∃m,n=m+1:=⟨n-1,∅⟩
  have hi:i.toNat<ks.length:=by omega
  exact⟨ks[i.toNat],.kind i _ i0 i1 (by simp[hi]),hk _ (List.getElem_mem hi)⟩
 |@turn dd c t hh ih=>
  intro hc n hn
  obtain⟨n,rfl⟩:∃m,n=m+1:=⟨n-1,∅⟩
  have e1:(c+1)*w=c*w+w:=by rw[Nat.add_mul,Nat.one_mul]
  obtain⟨x,h1,h2⟩:=ih ∅ n ∅
  have f:=h2.con h
  exact⟨_,.turn h1 (h2.g h ∅),f.ok,f.pos,f.ht.mono ∅⟩
 |@grid dd c t u v hu hv hu' hv' hh ih=>
  intro hc n hn
  obtain⟨n,rfl⟩:∃m,n=m+1:=⟨n-1,∅⟩
  have e1:(c+1)*w=c*w+w:=by rw[Nat.add_mul,Nat.one_mul]
  obtain⟨x,h1,h2⟩:=ih ∅ n ∅
  have g:=h2.g h ∅
  have of:Ok (low v 0 u):=mW _ _ ∅
  have bf:Bd 20 (low v 0 u):=o8 ∅ (Sz.of (by show v.natAbs<1048576;omega)) sz0 (Sz.of (by show u.natAbs<1048576;omega))
  have c1:7<=c*w:=le_trans (by omega:7<=1*w) (Nat.mul_le_mul_right w hh.pos.2)
  refine⟨_,.grid u v hu hv hu' hv' h1 g.1 g.2.2,eR g.1 of,?_,(Rh hd g.1 of h2.ht (NZ of bf)).mono ∅⟩
  rw[Hn h g.1 of,h2.pos,Dw h ∅]
  have:sg d v 0=1:=(mH h).mpr (.inl ⟨∅,∅,∅⟩)
  rw[this];rfl
 |@upon d0 es h2 h8 he hp ih=>
  intro hc n hn
  obtain⟨n,rfl⟩:∃m,n=m+1:=⟨n-1,∅⟩
  obtain⟨zs,rfl,hz⟩:=many es d0 h2 he hp ih hc (by omega:d0<=n)
  have es1:(zs.map fun z=>(z.1.2.1,z.2)).map (·.1)=(zs.map (·.1)).map (·.2.1):=by rw[map_map,map_map];rfl
  have es2:(zs.map fun z=>(z.1.2.1,z.2)).map (·.2)=zs.map (·.2):=by rw[map_map];rfl
  obtain⟨s1,s2⟩:=LX h hw (zs.map fun z=>(z.1.2.1,z.2)) (fun y hy=>by obtain⟨z,q,rfl⟩:=List.mem_map.mp hy;exact⟨(hz z q).2.2,(hz z q).2.1⟩) (by rw[es1];exact hc) (Hf h2)
  rw[es1,es2] at s2
  rw[es2] at s1
  refine⟨_,?_,s2⟩
  have:=SP.upon (d:=d) (ks:=ks) (n:=n) (zs.map fun z=>(z.1.2.2,z.2)) (by simpa using h2) (by simpa using h8) (fun e q=>by obtain⟨z,qz,rfl⟩:=List.mem_map.mp q;exact (hz z qz).1) (by rw[map_map];exact s1)
  rw[map_map,map_map] at this
  rw[map_map]
  exact this
 |@beside d0 es h2 h8 he hp ih=>
  intro hc n hn
  obtain⟨n,rfl⟩:∃m,n=m+1:=⟨n-1,∅⟩
  obtain⟨zs,rfl,hz⟩:=many es d0 h2 he hp ih hc (by omega:d0<=n)
  have le_sum:∀(l:List ((Nat×Nat×PyData)×N3)) z,z∈l->z.1.2.1<=((l.map (·.1)).map (·.2.1)).sum:=fun l=>by
   induction l with
   |nil=>exact fun y z=>(nomatch z)
   |cons a r ih=>
     intro y z
     rw[map_cons,map_cons,sum_cons]
     rcases List.mem_cons.mp z with q|q
     ·rw[q];omega
     ·have:=ih y q;omega
  have es1:(zs.map fun z=>(z.1.2.1,bV d z.2)).map (·.1)=(zs.map (·.1)).map (·.2.1):=by rw[map_map,map_map];rfl
  have es2:(zs.map fun z=>(z.1.2.1,bV d z.2)).map (·.2)=(zs.map (·.2)).map (bV d):=by rw[map_map,map_map];rfl
  obtain⟨s1,s2⟩:=LX h hw (zs.map fun z=>(z.1.2.1,bV d z.2)) (fun y hy=>by obtain⟨z,q,rfl⟩:=List.mem_map.mp hy;exact⟨(hz z q).2.2,(hz z q).2.1.con h⟩) (by rw[es1];exact hc) (Hf h2)
  rw[es1,es2] at s2
  rw[es2] at s1
  refine⟨_,?_,s2.con h⟩
  have em:(zs.map fun z=>(z.1.2.2,z.2)).map (·.2)=zs.map (·.2):=by rw[map_map];rfl
  have:=SP.beside (d:=d) (ks:=ks) (n:=n) (zs.map fun z=>(z.1.2.2,z.2)) (by simpa using h2) (by simpa using h8) (fun e q=>by obtain⟨z,qz,rfl⟩:=List.mem_map.mp q;exact (hz z qz).1)
   (fun e q=>by
    obtain⟨z,qz,rfl⟩:=List.mem_map.mp q
    have m1:z.1.2.1*w<=(((zs.map (·.1)).map (·.2.1)).sum+1)*w:=Nat.mul_le_mul_right w (by have:=le_sum zs z qz;omega)
    exact (hz z qz).2.1.g h ∅) (by rw[em];exact s1) (by rw[em];exact s2.g h hc)
  rw[em,map_map] at this
  rw[map_map]
  exact this
end
def Rr(b:Bool)(ks:List N3):PyData:=if b=true then .list (ks.map dN) else .tuple (ks.map dN)
noncomputable def mJ(n:Nat):DSp:=fun ds U Q=>∃(d:Int) (ks:List N3) (b:Bool) (t:PyData) (x:N3),ds=[.v (.int d),.v (Rr b ks),.v t]/\bu d/\Sh t/\SP d ks n t x/\∀Y,(∀b ds,U b=some ds->Y b=some ds)->Q (.v (dN x)) Y
theorem EL{n:Nat}{U:Mu}{Q:DK}{ds:List D}(h:mJ n ds U Q):ds.length=3:=by obtain⟨_,_,_,_,_,rfl,_⟩:=h;rfl
theorem JE{U:Mu}{Q:DK}{ds:List D}(h:mJ 0 ds U Q):False:=by obtain⟨_,_,_,_,_,_,_,_,h,_⟩:=h;cases h
noncomputable abbrev fT(n:Nat):DSp:=mJ n
theorem IX{n:Nat}{U:Mu}{Q:DK}{ds:List D}(h:fT n ds U Q):ds.length=3:=EL h
theorem Hi{U:Mu}{Q:DK}{ds:List D}(h:fT 0 ds U Q):False:=JE h
noncomputable def xq:DSp:=fun ds U Q=>∃(d:Int) (ks:List N3) (t:PyData) (x:N3),ds=[.v (.int d),.v (.tuple (ks.map dN)),.v t]/\bu d/\KindsOk d ks/\Sh t/\okN (cnt (ks.length:Nat) 12 t)=true/\SP d ks 13 t x/\∀Y,(∀b ds,U b=some ds->Y b=some ds)->Q (.v (dN x)) Y
theorem Gs{U:Mu}{Q:DK}{ds:List D}(h:xq ds U Q):ds.length=3:=by obtain⟨_,_,_,_,rfl,_⟩:=h;rfl
noncomputable def OH:DSp:=fun ds U Q=>∃(a:Addr) (d:Int) (ks:List N3) (t:PyData) (dd c:Nat),ds=[.m a,.v (.int d),.v (.tuple (ks.map dN)),.v t]/\bu d/\KindsOk d ks/\IsP (ks.length:Nat) dd c t/\dd<=12/\Bag U a /\
 ∀ks' Y,KindsOk d ks'->ks'.length=ks.length->(c<=12\/∀k∈ks',Bd 4 k)->kx a U Y->Q (.v (.tuple (ks'.map dN))) Y
theorem Pu{U:Mu}{Q:DK}{ds:List D}(h:OH ds U Q):ds.length=4:=by obtain⟨_,_,_,_,_,_,rfl,_⟩:=h;rfl
noncomputable def yM(n:Nat):DTS:=
 (aY (bJ (dOp aI (ag 2) (dC (.int 0))) (ar 3))
 (aY (cZ (dB (dOp (cW false) (ag 3) (dC (.str "kind")))) (bM (dOp aI (ag 1) (dOp aI (ag 2) (dC (.int 1))))) cg)
 (aY (bJ (dJ [none,some 0,some 1] (gb (aB xC (ae (ag 2) ai))) (ar 0) jb (aB (mJ n) (ae (ag 1) (ae (ag 2) (ae (ag 0) ai))))) (ar 4))
 (aY (cZ (dB (dOp (cW false) (ag 3) (dC (.str "turn")))) (bM (aB dI (ae (ag 0) (ae (dOp aI (ag 4) (dC (.int 0))) ai)))) cg)
 (aY (cZ (dB (dOp (cW false) (ag 3) (dC (.str "grid")))) (bM (aB pE (ae (ag 0) (ae (dOp aI (ag 4) (dC (.int 0))) (ae (aB dE (ae (dOp aI (ag 2) (dC (.int 2))) (ae (dC (.int 0)) (ae (dOp aI (ag 2) (dC (.int 1))) ai)))) ai))))) cg)
 (aY (cZ (dB (dOp (cW false) (ag 3) (dC (.str "upon")))) (bM (aB Au (ae (ag 4) ai))) cg)
 (bM (aB dI (ae (ag 0) (ae (aB Au (ae (dJ [none,some 0] (gb (ag 4)) (ar 0) jb (aB dI (ae (ag 1) (ae (ag 0) ai)))) ai)) ai))))))))))
noncomputable def rP(n:Nat):DTS:=
 (aY (cZ (dB (dOp (cW false) (dOp aI (ag 2) (dC (.int 0))) (dC (.str "kind")))) (bM (dOp aI (ag 1) (dOp aI (ag 2) (dC (.int 1))))) cg)
 (aY (cZ (dB (dOp (cW false) (dOp aI (ag 2) (dC (.int 0))) (dC (.str "turn")))) (bM (aB dI (ae (ag 0) (ae (aB (fT n) (ae (ag 0) (ae (ag 1) (ae (dOp aI (ag 2) (dC (.int 1))) ai)))) ai)))) cg)
 (aY (cZ (dB (dOp (cW false) (dOp aI (ag 2) (dC (.int 0))) (dC (.str "grid")))) (bM (aB pE (ae (ag 0) (ae (aB (fT n) (ae (ag 0) (ae (ag 1) (ae (dOp aI (ag 2) (dC (.int 3))) ai)))) (ae (aB dE (ae (dOp aI (ag 2) (dC (.int 2))) (ae (dC (.int 0)) (ae (dOp aI (ag 2) (dC (.int 1))) ai)))) ai))))) cg)
 (aY (bJ (dJ [none,some 0,some 1] (D8 (dOp aI (ag 2) (dC (.int 1)))) (ar 0) jb (aB (fT n) (ae (ag 1) (ae (ag 2) (ae (ag 0) ai))))) (ar 3))
 (aY (cZ (dB (dOp (cW false) (dOp aI (ag 2) (dC (.int 0))) (dC (.str "upon")))) (bM (aB Au (ae (ag 3) ai))) cg)
 (bM (aB dI (ae (ag 0) (ae (aB Au (ae (dJ [none,some 0] (gb (ag 3)) (ar 0) jb (aB dI (ae (ag 1) (ae (ag 0) ai)))) ai)) ai)))))))))
noncomputable def wL:DTS:=
 (aY (kN (aB dQ (ae (ag 0) (ae (ag 1) ai))))
 (aY (kN (aB jD (ae (ag 2) (ae (dCB cI (ae (ag 1) ai)) ai))))
 (bM (aB (mJ 13) (ae (ag 0) (ae (ag 1) (ae (ag 2) ai)))))))
section
variable {U:Mu}{Qd:DK}{ds:List D}{ρ:Rho}{d:Int}{ks:List N3}{n:Nat}{b:Bool}
theorem HW{i:Int}{k:N3}(i0:0<=i)(h:ks[i.toNat]? = some k)(q:Qd (.v (dN k)) U):aI (.v (Rr b ks)) (.v (.int i)) U Qd:=by
 have e:atI (ks.map dN) i=some (dN k):=by
  have:=zu (xs:=ks.map dN) (j:=i.toNat) (v:=dN k) (by rw[getElem?_map,h];rfl)
  rw[show ((i.toNat:Nat):Int)=i by omega] at this
  exact this
 cases b with
 |true=>show aI (.v (.list (ks.map dN))) _ _ _;rw[D1,e];exact q
 |false=>show aI (.v (.tuple (ks.map dN))) _ _ _;rw[CH,e];exact q
theorem pS{src:DTI}{es:List (PyData×N3)}(hs:∀QI:List PyData->Mu->Prop,QI (es.map (·.1)) U->src ρ U QI)(hl:es.length<=8)(hd:bu d)(h0:ρ[0]? = some (some (.v (.int d))))(h1:ρ[1]? = some (some (.v (Rr b ks))))
  (hh:∀e∈es,Sh e.1/\SP d ks n e.1 e.2) (q:∀Y,(∀b ds,U b=some ds->Y b=some ds)->Qd (.v (.list ((es.map (·.2)).map dN))) Y) :
  dJ [none,some 0,some 1] src (ar 0) jb (aB (mJ n) (ae (ag 1) (ae (ag 2) (ae (ag 0) ai)))) ρ U Qd:=by
 rw[rE]
 refine hs _ ⟨by rw[length_map];omega,fun p hp=>⟨fun i acc Y=>acc=((es.take i).map (·.2)).map dN/\∀b ds,b≠p->U b=some ds->Y b=some ds,⟨by simp,fun b ds hb e=>by rw[bR hb];exact e⟩,?_,?_⟩⟩
 ·rintro i x acc Y hx hacc ⟨rfl,hk⟩
  rw[getElem?_map] at hx
  obtain⟨e,he,rfl⟩:∃e,es[i]? = some e/\e.1=x:=by
   cases z:es[i]? with
   |none=>rw[z] at hx;cases hx
   |some e=>rw[z] at hx;exact⟨e,rfl,by simpa using hx⟩
  have hm:=hh e (mem_of_getElem? he)
  simp only[eW,xh,wx,h0,h1,bind_some,bind_none,join_some,set_cons_zero,wd,↓reduceIte,Ck,Es,CL,true_and,and_true,AY,gv,kf,x6,yJ,A7]
  refine⟨d,ks,b,e.1,e.2,rfl,hd,hm.1,hm.2,fun ce h4=>⟨h4 _ _ hacc,?_,fun b ds hb e'=>by rw[bR hb];exact h4 b ds (hk b ds hb e')⟩⟩
  rw[take_succ,he];simp
 ·rintro acc Y ⟨rfl,hk⟩ hacc
  rw[length_map,take_length]
  exact q _ fun b ds e=>by
   have hb:b≠p:=fun z=>by rw[z,hp] at e;cases e
   rw[sF hb];exact hk b ds hb e
theorem Kg{src:DTI}{xs:List N3}(hs:∀QI:List PyData->Mu->Prop,QI (xs.map dN) U->src ρ U QI)(hl:xs.length<=8)(hd:bu d)(h0:ρ[0]? = some (some (.v (.int d))))(hh:∀x∈xs,G d x)
  (q:Qd (.v (.list ((xs.map (bV d)).map dN))) U):dJ [none,some 0] src (ar 0) jb (aB dI (ae (ag 1) (ae (ag 0) ai))) ρ U Qd:=by
 rw[rE]
 refine hs _ ⟨by rw[length_map];omega,fun p hp=>⟨fun i acc Y=>acc=((xs.take i).map (bV d)).map dN/\Y=aR U p acc,⟨by simp,rfl⟩,?_,?_⟩⟩
 ·rintro i x acc Y hx hacc ⟨rfl,rfl⟩
  obtain⟨y,hy,rfl⟩:=Xd hx
  have g:=hh y (mem_of_getElem? hy)
  simp only[eW,xh,wx,h0,bind_some,bind_none,join_some,set_cons_zero,wd,↓reduceIte,Ck,Es,CL,true_and,and_true,AY,gv,kf,x6,yJ]
  refine⟨d,y,rfl,Ba hd.1 hd.2.1,g.2.1,g.2.2,hacc,?_,?_⟩
  ·rw[take_succ,hy];simp
  ·rw[pL]
 ·rintro acc Y ⟨rfl,rfl⟩ hacc
  rw[xo hp,length_map,take_length]
  exact q
theorem xp{es:List (PyData×N3)}:(es.map (·.2)).length=es.length:=length_map _
theorem Nm(n:Nat)(h:mJ (n+1) ds U Qd):yM n ‹Qd› (aS ["","","","",""] ds) U:=by
 obtain⟨d,ks,b,t,x,rfl,hd,hs,sp,q⟩:=h
 have hz:=Ba hd.1 hd.2.1
 unfold yM
 cases sp with
 |kind i k i0 i1 hk=>
  walk_at "rl"
  exact HW i0 hk (q U fun _ _ e=>e)
 |@turn _ t' y h1 g=>
  walk_at "rl"
  refine pS (es:=[(t',y)]) (fun QI hq=>?_) (by simp) hd rfl rfl (fun e he=>by rw[List.mem_singleton.mp he];exact⟨hs.mem t' (by simp),h1⟩) fun ac k1=>?_
  ·walk_at "rl"
   exact⟨_,1,[t'],rfl,hs,by show eN 1 (.str "turn") t'=_;unfold eN;rw[if_neg (by rw[SO];decide),if_pos TM],hq⟩
  walk_at "rl"
  exact⟨d,y,rfl,hz,g.2.1,g.2.2,q ac k1⟩
 |@grid _ t' y u v hu hv hu' hv' h1 oy by_=>
  walk_at "rl"
  refine pS (es:=[(t',y)]) (fun QI hq=>?_) (by simp) hd rfl rfl (fun e he=>by rw[List.mem_singleton.mp he];exact⟨hs.mem t' (by simp),h1⟩) fun ac k1=>?_
  ·walk_at "rl"
   refine⟨_,1,[t'],rfl,hs,?_,hq⟩
   show qV (.str "grid") (.int u) (.int v) t'=_
   unfold qV
   rw[if_pos Qm,if_pos]
   show ((true&&decide (1<=u))&&(true&&decide (1<=v)))=true
   rw[decide_eq_true hu,decide_eq_true hv];rfl
  walk_at "rl"
  have bf:Bd 20 (low v 0 u):=o8 ∅ (Sz.of (by show v.natAbs<1048576;omega)) sz0 (Sz.of (by show u.natAbs<1048576;omega))
  refine⟨v,0,u,rfl,∅,(Sz.of (n:=20) (by show u.natAbs<1048576;omega)).mono ⋯,?_⟩
  exact⟨d,y,low v 0 u,rfl,hz,oy,mW _ _ ∅,by_,bf.mono ⋯,q ac k1⟩
 |@upon _ es h2 h8 hh ss=>
  walk_at "rl"
  have hp:∀e∈es,Sh e.1:=fun e he=>(hs.mem (.tuple (es.map (·.1))) (by simp)).mem e.1 (mem_map_of_mem he)
  refine pS (es:=es) (fun QI hq=>?_) h8 hd rfl rfl (fun e he=>⟨hp e he,hh e he⟩) fun ac k1=>?_
  ·walk_at "rl"
   exact⟨_,1,_,rfl,hs,pR (.inl rfl) (by simpa using h2) (by simpa using h8),hq⟩
  walk_at "rl"
  exact⟨_,rfl,by rw[xp];omega,ss,q ac k1⟩
 |@beside _ es h2 h8 hh hg ss g=>
  walk_at "rl"
  have hp:∀e∈es,Sh e.1:=fun e he=>(hs.mem (.tuple (es.map (·.1))) (by simp)).mem e.1 (mem_map_of_mem he)
  refine pS (es:=es) (fun QI hq=>?_) h8 hd rfl rfl (fun e he=>⟨hp e he,hh e he⟩) fun ac k1=>?_
  ·walk_at "rl"
   exact⟨_,1,_,rfl,hs,pR (.inr rfl) (by simpa using h2) (by simpa using h8),hq⟩
  walk_at "rl"
  refine Kg (xs:=es.map (·.2)) (fun QI hq=>by walk_at "rl";exact hq) (by rw[xp];exact h8) hd rfl (fun x hx=>by obtain⟨e,he,rfl⟩:=List.mem_map.mp hx;exact hg e he) ?_
  refine⟨_,rfl,by rw[length_map,xp];omega,ss,?_⟩
  exact⟨d,_,rfl,hz,g.2.1,g.2.2,q ac k1⟩
theorem GV(n:Nat)(h:fT (n+1) ds U Qd):rP n ‹Qd› (aS ["","","",""] ds) U:=by
 obtain⟨d,ks,b,t,x,rfl,hd,hs,sp,q⟩:=h
 have hz:=Ba hd.1 hd.2.1
 unfold rP
 cases sp with
 |kind i k i0 i1 hk=>
  walk_at "rl"
  exact HW i0 hk (q U fun _ _ e=>e)
 |@turn _ t' y h1 g=>
  walk_at "rl"
  refine⟨d,ks,b,t',y,rfl,hd,hs.mem t' (by simp),h1,fun ac k1=>?_⟩
  exact⟨d,y,rfl,hz,g.2.1,g.2.2,q ac k1⟩
 |@grid _ t' y u v hu hv hu' hv' h1 oy by_=>
  walk_at "rl"
  refine⟨d,ks,b,t',y,rfl,hd,hs.mem t' (by simp),h1,fun ac k1=>?_⟩
  have bf:Bd 20 (low v 0 u):=o8 ∅ (Sz.of (by show v.natAbs<1048576;omega)) sz0 (Sz.of (by show u.natAbs<1048576;omega))
  refine⟨v,0,u,rfl,∅,(Sz.of (n:=20) (by show u.natAbs<1048576;omega)).mono ⋯,?_⟩
  exact⟨d,y,low v 0 u,rfl,hz,oy,mW _ _ ∅,by_,bf.mono ⋯,q ac k1⟩
 |@upon _ es h2 h8 hh ss=>
  walk_at "rl"
  have hp:∀e∈es,Sh e.1:=fun e he=>(hs.mem (.tuple (es.map (·.1))) (by simp)).mem e.1 (mem_map_of_mem he)
  refine pS (es:=es) (fun QI hq=>by walk_at "rl";exact hq) h8 hd rfl rfl (fun e he=>⟨hp e he,hh e he⟩) fun ac k1=>?_
  walk_at "rl"
  exact⟨_,rfl,by rw[xp];omega,ss,q ac k1⟩
 |@beside _ es h2 h8 hh hg ss g=>
  walk_at "rl"
  have hp:∀e∈es,Sh e.1:=fun e he=>(hs.mem (.tuple (es.map (·.1))) (by simp)).mem e.1 (mem_map_of_mem he)
  refine pS (es:=es) (fun QI hq=>by walk_at "rl";exact hq) h8 hd rfl rfl (fun e he=>⟨hp e he,hh e he⟩) fun ac k1=>?_
  walk_at "rl"
  refine Kg (xs:=es.map (·.2)) (fun QI hq=>by walk_at "rl";exact hq) (by rw[xp];exact h8) hd rfl (fun x hx=>by obtain⟨e,he,rfl⟩:=List.mem_map.mp hx;exact hg e he) ?_
  refine⟨_,rfl,by rw[length_map,xp];omega,ss,?_⟩
  exact⟨d,_,rfl,hz,g.2.1,g.2.2,q ac k1⟩
theorem JS(h:xq ds U Qd):wL ‹Qd› (aS ["","",""] ds) U:=by
 obtain⟨d,ks,t,x,rfl,hd,hk,hs,ho,sp,q⟩:=h
 unfold wL
 walk_at "rl"
 refine⟨d,ks,rfl,hd,hk.l1,hk.l3,hk.wide.ok,?_⟩
 walk_at "rl"
 rw[length_map]
 refine⟨t,_,rfl,hs,ho,fun ac k1=>?_⟩
 walk_at "rl"
 exact⟨d,ks,false,t,x,rfl,hd,hs,sp,fun ad k2=>q ad fun b ds e=>k2 b ds (k1 b ds e)⟩
end
noncomputable def zI:DSp:=fun ds U Q=>∃(a:Addr) (d:Int) (x:N3),ds=[.m a,.v (.int d),.v (dN x)]/\bu d/\Ok x/\Bd 3120 x/\sg d x.a x.b=1/\Bag U a/\∀p Y,Ok p->Bd 20 p->(p=bL\/sg d p.a p.b=1)->Step a U Y->Q (.v (dN (times d x p))) Y
theorem HC{ds:List D}{U:Mu}{Q:DK}(h:zI ds U Q):ds.length=3:=by obtain⟨_,_,_,rfl,_⟩:=h;rfl
noncomputable def An:DSp:=fun ds U Q=>∃a:Addr,ds=[.m a]/\Bag U a/\∀t Y,Few t->isNum t=false->Step a U Y->Q (.v t) Y
theorem Jb{ds:List D}{U:Mu}{Q:DK}(h:An ds U Q):ds.length=1:=by obtain⟨_,rfl,_⟩:=h;rfl
noncomputable def Mo(d:Int)(e:N3)(t:PyData):Prop:=isNum t=false\/∃x,t=dN x/\(dif d bL x=1\/dif d e x≠1)
noncomputable def GQ(t:PyData):Prop:=Few t/\(isNum t=false\/∃x,t=dN x/\Ok x/\Bd 3200 x)
noncomputable def rY:DSp:=fun ds U Q=>∃(a:Addr) (d:Int) (x:N3),ds=[.m a,.v (.int d),.v (dN x)]/\bu d/\Ok x/\Bd 3120 x/\sg d x.a x.b=1/\Bag U a/\∀t Y,GQ t->Mo d x t->Step a U Y->Q (.v t) Y
theorem GG{ds:List D}{U:Mu}{Q:DK}(h:rY ds U Q):ds.length=3:=by obtain⟨_,_,_,rfl,_⟩:=h;rfl
noncomputable def iW:DTS:=
 (aY (cZ (dB (dOp rLe (aB (fX 31) (ae (ag 3) (ae (dCB cI (ae (ag 2) ai)) (ae (dC (.int 12)) ai)))) (dC (.int 12)))) (bM (ag 2)) cg)
 (aY (bJ (G8 ai) (ar 4))
 (aY (GR (D8 (ag 2)) (ar 5) (aY (bJ (aB dE (ae (vz (aB bX (ae (ag 0) (ae (dC (.int 9)) ai))) (dC (.int 4))) (ae (vz (aB bX (ae (ag 0) (ae (dC (.int 5)) ai))) (dC (.int 2))) (ae (jB (dC (.int 1)) (aB bX (ae (ag 0) (ae (dC (.int 3)) ai)))) ai)))) (ar 6))
 (kN (MD (ag 4) (dOp aI (ff (ae (bj (ae (dC (.int 1)) (ae (dC (.int 0)) (ae (dC (.int 1)) ai)))) (ae (ag 6) (ae (aB uU (ae (ag 6) ai)) ai)))) (aB vO (ae (ag 1) (ae (ag 6) ai))))))))
 (bM (dCB qZ (ae (ag 4) ai))))))
noncomputable def oM:DTS:=
 (aY (bJ (dOp aI (ff (ae (dC (.int 2)) (ae (dC (.int 3)) (ae (dC (.int 7)) (ae (dC (.int 60)) (ae (M5 (dC (.int 10)) (dC (.int 6))) ai)))))) (aB bX (ae (ag 0) (ae (dC (.int 5)) ai)))) (ar 3))
 (bM (aB pE (ae (ag 1) (ae (ag 2) (ae (aB dE (ae (aB bX (ae (ag 0) (ae (ag 3) ai))) (ae (dC (.int 0)) (ae (ag 3) ai)))) ai))))))
noncomputable def oZ:DTS:=
 (aY (bJ (aB Hu (ae (ag 0) ai)) (ar 1))
 (bM (dOp aI (ff (ae (ag 1) (ae (dC .none) ai))) (dCB vk (ae (aB tR (ae (ag 1) ai)) ai)))))
noncomputable def mI:DTS:=
 (aY (bJ (aB zI (ae (ag 0) (ae (ag 1) (ae (ag 2) ai)))) (ar 3))
 (aY (bJ (aB uU (ae (aB qd (ae (ag 3) (ae (aB dE (ae (dC (.int 1)) (ae (dC (.int 0)) (ae (M5 (dC (.int 10)) (dC (.int 6))) ai)))) ai))) ai)) (ar 4))
 (aY (bJ (ff (ae (ag 2) (ae (aB qd (ae (ag 2) (ae (ag 3) ai))) (ae (ag 4) (ae (dCB oV (ae (ag 3) ai)) (ae (dSl (ag 3) lu (tL (dC (.int 2)))) (ae (dOp ij (ag 3) (bj (ae (dC (.int 0)) ai))) (ae (bj (ae (du (dOp aI (ag 3) (dC (.int 0))) (dC (.int 3))) (ae (du (dOp aI (ag 3) (dC (.int 1))) (dC (.int 3))) (ae (du (dOp aI (ag 3) (dC (.int 2))) (dC (.int 3))) ai)))) (ae (aB An (ae (ag 0) ai)) ai))))))))) (ar 5))
 (bM (dOp aI (ag 5) (aB bX (ae (ag 0) (ae (dC (.int 8)) ai))))))))
section
variable {U:Mu}{Qd:DK}{ds:List D}
theorem xG(h:OH ds U Qd):iW ‹Qd› (aS ["","","","","","",""] ds) U:=by
 obtain⟨a,d,ks,t,dd,c,rfl,hd,hk,hp,hdd,hb,q⟩:=h
 unfold iW
 walk_at "rl"
 rw[length_map]
 refine⟨t,_,12,rfl,⋯,hp.lt.sh ∅,fun ac k1=>?_⟩
 rw[hp.cnt 12 hdd]
 walk_at "rl"
 have s1:kx a U ac:=.of hb k1
 by_cases c12:c<=12
 ·rw[tH (decide_eq_true ∅)]
  exact q ks ac hk rfl (.inl c12) s1
 ·rw[rB (by rw[decide_eq_true_eq];omega)]
  intro p hp1
  have pa:p≠a:=fun z=>by obtain⟨g,k,e,_⟩:=s1.1;rw[z,e] at hp1;cases hp1
  have p0:U p=none:=by
   cases e:U p with
   |none=>rfl
   |some ds=>rw[s1.2 p pa ds e] at hp1;cases hp1
  walk_at "rl"
  rw[EH]
  walk_at "rl"
  refine⟨fun i ρ Y=>∃(ks':List N3) (r5 r6:Option D),ρ=[some (.m a),some (.v (.int d)),some (.v (.tuple (ks.map dN))),some (.v t),some (.m p),r5,r6]/\ks'.length=i/\(∀k∈ks',Ok k/\Bd 4 k/\sg d k.a k.b=1)/\Y p=some (ks'.map dN)/\Bag Y a/\(∀b,b≠a->b≠p->∀ds,U b=some ds->Y b=some ds),
   ⟨[],_,_,rfl,rfl,(fun _ z=>nomatch z),bP,s1.1.set pa,fun b n1 n2 ds e=>by rw[bR n2];exact s1.2 b n1 ds e⟩,?_,?_⟩
  ·rintro i y ρ ad hy ⟨ks',r5,r6,rfl,hl,hk',hp2,hb2,kp⟩
   walk_at "rl"
   refine⟨a,9,rfl,⋯,⋯,hb2,fun r1 ap r10 r11 s3=>?_⟩
   walk_at "rl"
   refine⟨a,5,rfl,⋯,⋯,s3.1,fun r2 ce r20 r21 s4=>?_⟩
   walk_at "rl"
   refine⟨a,3,rfl,⋯,⋯,s4.1,fun r3 nb r30 r31 s5=>?_⟩
   walk_at "rl"
   have sz:∀{z:Int},-16<z->z<16->Sz 4 z:=fun h1 h2=>Sz.of (by show _<16;omega)
   have c0:(1+r3:Int)≠0:=by omega
   refine⟨r1-4,r2-2,1+r3,rfl,c0,(sz ∅ ∅).mono ⋯,?_⟩
   have ox:Ok (low (r1-4) (r2-2) (1+r3)):=mW _ _ c0
   have bx:Bd 4 (low (r1-4) (r2-2) (1+r3)):=o8 c0 (sz ∅ ∅) (sz ∅ ∅) (sz ∅ ∅)
   generalize low (r1-4) (r2-2) (1+r3)=x at ox bx
   have s35:=(s3.trans s4).trans s5
   have hp5:nb p=some (ks'.map dN):=by rw[s35.2 p pa];exact hp2
   have fin:∀k:N3,Ok k->Bd 4 k->sg d k.a k.b=1->(match D.v (dN k),nb p with|.v d',some xs=>xs.length<1000/\∃(ks'':List N3) (r5' r6':Option D),[some (.m a),some (.v (.int d)),some (.v (.tuple (ks.map dN))),some (.v t),some (.m p),some (.v y),some (.v (dN x))]=[some (.m a),some (.v (.int d)),some (.v (.tuple (ks.map dN))),some (.v t),some (.m p),r5',r6']/\ks''.length=i+1/\(∀k∈ks'',Ok k/\Bd 4 k/\sg d k.a k.b=1)/\aR nb p (xs++[d']) p=some (ks''.map dN)/\Bag (aR nb p (xs++[d'])) a/\(∀b,b≠a->b≠p->∀ds,U b=some ds->aR nb p (xs++[d']) b=some ds)|_,_=>False):=fun k ok bk sk=>by
    rw[hp5]
    have hi:i<ks.length:=by have:=List.getElem?_eq_some_iff.mp hy;obtain⟨z,_⟩:=this;rw[length_map] at z;exact z
    have l3:=hk.l3
    refine⟨by rw[length_map];omega,ks'++[k],_,_,rfl,by simp[hl],fun k' hk''=>?_,by rw[bP];simp,s35.1.set pa,fun b n1 n2 ds e=>by rw[bR n2,s35.2 b n1];exact kp b n1 n2 ds e⟩
    rcases List.mem_append.mp hk'' with z|z
    ·exact hk' k' z
    ·rw[List.mem_singleton.mp z];exact⟨ok,bk,sk⟩
   walk_at "rl"
   refine⟨x,rfl,?_⟩
   refine⟨d,x,rfl,hd,bx.mono ⋯,?_⟩
   rcases A2 d x.a x.b with e|e|e
   ·rw[e]
    exact fin one qf ⟨Sz.of ⋯,Sz.of ⋯,Sz.of ⋯⟩ DF
   ·rw[e]
    exact fin x ox bx e
   ·rw[e]
    exact fin (minus x) (vC ox) (AB bx) (by show sg d (-x.a) (-x.b)=1;rw[Cb hd,e];rfl)
  ·rintro ρ ad ⟨ks',r5,r6,rfl,hl,hk',hp2,hb2,kp⟩
   rw[length_map] at hl
   walk_at "rl"
   rw[hp2]
   exact q ks' ad ⟨by rw[hl];exact hk.l1,by rw[hl];exact hk.l3,fun k z=>⟨(hk' k z).1,(hk' k z).2.1.mono ⋯,(hk' k z).2.2⟩⟩ hl (.inr fun k z=>(hk' k z).2.1) ⟨hb2,fun b n ds e=>kp b n (fun z=>by rw[z,p0] at e;cases e) ds e⟩
theorem SP.up{d:Int}{ks:List N3}{n:Nat}{t:PyData}{x:N3}(h:SP d ks n t x):SP d ks (n+1) t x:=by
 induction h with
 |kind i k i0 i1 hk=>exact .kind i k i0 i1 hk
 |turn _ g ih=>exact .turn ih g
 |grid u v hu hv hu' hv' _ ox bx ih=>exact .grid u v hu hv hu' hv' ih ox bx
 |upon es h2 h8 _ hs ih=>exact .upon es h2 h8 ih hs
 |beside es h2 h8 _ hg hs g ih=>exact .beside es h2 h8 ih hg hs g
theorem Dj(h:zI ds U Qd):oM ‹Qd› (aS ["","","",""] ds) U:=by
 obtain⟨a,d,x,rfl,hd,ox,bx,sx,hb,q⟩:=h
 unfold oM
 walk_at "rl"
 refine⟨⟨⋯,⋯,⋯⟩,a,5,rfl,⋯,⋯,hb,fun r ac r0 r1 s1=>?_⟩
 walk_at "rl"
 obtain⟨_,e,w,rfl,w1,w2⟩:=pick (P:=fun v=>∃w:Int,v = .int w/\2<=w/\w<=1000000) (xs:=[.int 2,.int 3,.int 7,.int 60,.int (10 ^ Int.toNat 6)]) r0 (by exact r1) (by
  refine bE ?_ <| bE ?_ <| bE ?_ <| bE ?_ <| bE ?_ <| Er
  ·exact⟨_,rfl,⋯,⋯⟩
  ·exact⟨_,rfl,⋯,⋯⟩
  ·exact⟨_,rfl,⋯,⋯⟩
  ·exact⟨_,rfl,⋯,⋯⟩
  ·exact⟨_,rfl,nofun,nofun⟩)
 rw[e]
 walk_at "rl"
 refine⟨a,w,rfl,∅,∅,s1.1,fun t ad t0 t1 s2=>?_⟩
 have wn:w≠0:=by omega
 have zz:∀{i:Int},0<=i->i<=1000000->Sz 20 i:=fun h1 h2=>Sz.of (by show _<1048576;omega)
 refine⟨t,0,w,rfl,wn,(zz ∅ w2).mono ⋯,?_⟩
 have op:=mW t 0 wn
 have bp:Bd 20 (low t 0 w):=o8 wn (zz t0 ∅) sz0 (zz ∅ w2)
 refine⟨d,x,_,rfl,Ba hd.1 hd.2.1,ox,op,bx.mono ⋯,bp.mono ⋯,q _ ad op bp ?_ (s1.trans s2)⟩
 rcases Int.lt_or_eq_of_le t0 with z|z
 ·right
  rw[HE hd ∅]
  exact (mH hd).mpr (.inl ⟨∅,∅,∅⟩)
 ·left
  exact Rep.eq op fV (rq wn) (cb fV) (by rw[<- z];show 0*1=0*w;omega) (by show 0*1=0*w;omega)
theorem Ob{t:PyData}(h:t∈rD):Few t:=by
 have:=@NW 2 t h
 exact this.1
theorem C4(h:An ds U Qd):oZ ‹Qd› (aS ["",""] ds) U:=by
 obtain⟨a,rfl,hb,q⟩:=h
 unfold oZ
 walk_at "rl"
 refine⟨a,rfl,hb,fun t ac ht s1=>?_⟩
 walk_at "rl"
 refine⟨t,rfl,Ob ht,?_⟩
 cases e:isNum t with
 |true=>
  walk_at "rl"
  exact q _ _ trivial rfl s1
 |false=>
  walk_at "rl"
  exact q _ _ (Ob ht) e s1
theorem Yb{d:Int}{x:N3}:dif d bL x=sg d (-x.a) (-x.b):=by
 unfold dif
 have e1:bL.a*x.c-x.a*bL.c = -x.a:=by show 0*x.c-x.a*1 = -x.a;omega
 have e2:bL.b*x.c-x.b*bL.c = -x.b:=by show 0*x.c-x.b*1 = -x.b;omega
 rw[e1,e2]
theorem QR{d:Int}{x y:N3}(hd:bu d)(ox:Ok x)(oy:Ok y)(hy:y=bL\/sg d y.a y.b=1):dif d x (plus x y)≠1:=by
 have e:less x (plus x y)=minus y:=Rep.eq (Ta ox (gM ox oy)) (vC oy) ((cb ox).less ox (gM ox oy) ((cb ox).plus ox oy (cb oy))) ((cb oy).minus) (by grind) (by grind)
 rw[<- SJ hd ox (gM ox oy),e]
 show sg d (-y.a) (-y.b)≠1
 rw[Cb hd]
 rcases hy with rfl|hy
 ·rw[show sg d bL.a bL.b=0 from jf.mpr ⟨rfl,rfl⟩];decide
 ·rw[hy];decide
theorem OA{x:N3}(o:Ok x)(b:Bd 3200 x):GQ (dN x):=⟨G3,.inr ⟨x,rfl,o,b⟩⟩
theorem AE{t:PyData}(f:Few t)(h:isNum t=false):GQ t:=⟨f,.inl h⟩
theorem BL(h:rY ds U Qd):mI ‹Qd› (aS ["","","","","",""] ds) U:=by
 obtain⟨a,d,e,rfl,hd,oe,be,se,hb,q⟩:=h
 have s5:=Ba hd.1 hd.2.1
 unfold mI
 walk_at "rl"
 refine⟨a,d,e,rfl,hd,oe,be,se,hb,fun p ac op bp sp s1=>?_⟩
 have oy:=eR (d:=d) oe op
 have by_:=Fc s5 oe op be bp
 have sy:times d e p=bL\/sg d (times d e p).a (times d e p).b=1:=by
  rcases sp with rfl|sp
  ·exact .inl (YT oe)
  ·exact .inr (by rw[L0 hd oe op,se,sp];rfl)
 have ez:plus e (times d e p)=times d e (plus one p):=by rw[X7 oe qf op,Wz oe]
 have bz:Bd 3200 (plus e (times d e p)):=by
  rw[ez]
  have b1:Bd 1 one:=⟨Sz.of ⋯,Sz.of ⋯,Sz.of ⋯⟩
  exact (Fc s5 oe (gM qf op) be (N7 qf op b1 bp)).mono ⋯
 have cz:=QR hd oe oy sy
 have oz:=gM oe oy
 generalize hy:times d e p=y at oy by_ sy bz cz oz
 walk_at "rl"
 have m0:((10:Int) ^ Int.toNat 6)≠0:=nofun
 refine⟨⟨⋯,⋯,⋯⟩,1,0,_,rfl,m0,(Sz.of (n:=20) nofun).mono ⋯,?_⟩
 have om:=mW 1 0 m0
 have bm:Bd 20 (low 1 0 ((10:Int) ^ Int.toNat 6)):=o8 m0 (Sz.of nofun) sz0 (Sz.of nofun)
 have sm:sg d (low 1 0 ((10:Int) ^ Int.toNat 6)).a (low 1 0 ((10:Int) ^ Int.toNat 6)).b=1:=by
  rw[HE hd nofun]
  exact (mH hd).mpr (.inl ⟨∅,∅,∅⟩)
 generalize low 1 0 ((10:Int) ^ Int.toNat 6)=m at om bm sm
 refine⟨y,m,rfl,oy,om,by_.mono ⋯,bm.mono ⋯,?_⟩
 have ob:=gM oy om
 have bb:=N7 oy om by_ bm
 have sb:sg d (plus y m).a (plus y m).b=1:=EM hd oy om sy sm
 generalize plus y m=b at ob bb sb
 refine⟨b,rfl,?_⟩
 walk_at "rl"
 refine⟨e,y,rfl,oe,oy,be.mono ⋯,by_.mono ⋯,?_⟩
 generalize plus e y=z at bz cz oz
 have m3:∀z:Int,MulOk z 3:=fun z=>mulR ⋯
 simp only[oV,dN]
 walk_at "rl"
 refine⟨by show 4<=1000;decide,m3 _,m3 _,m3 _,a,rfl,s1.1,fun o ad fo no s2=>?_⟩
 walk_at "rl"
 refine⟨a,8,rfl,⋯,⋯,s2.1,fun r ap r0 r1 s3=>?_⟩
 walk_at "rl"
 obtain⟨t,et,f1,f2⟩:=pick (P:=fun t=>GQ t/\Mo d e t) (xs:=[dN {a:=e.a,b:=e.b,c:=e.c},dN {a:=z.a,b:=z.b,c:=z.c},
    dN {a:=(minus b).a,b:=(minus b).b,c:=(minus b).c},
    PyData.list [PyData.int y.a,PyData.int y.b,PyData.int y.c],
    PyData.tuple (oR [PyData.int y.a,PyData.int y.b,PyData.int y.c] none (some 2)),
    PyData.tuple [PyData.int y.a,PyData.int y.b,PyData.int y.c,PyData.int 0],
    dN {a:=y.a*3,b:=y.b*3,c:=y.c*3},o]) r0 (by exact r1) (by
  intro u hu
  simp only[mem_cons,not_mem_nil,or_false] at hu
  have no3:isNum (dN {a:=y.a*3,b:=y.b*3,c:=y.c*3})=false:=by
   have g:=HM y.a y.b y.c 3
   rw[oy.g] at g
   simp[dN,isNum,g]
  rcases hu with rfl|rfl|rfl|rfl|rfl|rfl|rfl|rfl
  ·exact⟨OA oe (be.mono ⋯),.inr ⟨e,rfl,.inr (by rw[Ra];decide)⟩⟩
  ·exact⟨OA oz bz,.inr ⟨z,rfl,.inr cz⟩⟩
  ·exact⟨OA (vC ob) ((AB bb).mono ⋯),.inr ⟨minus b,rfl,.inl (by rw[Yb];show sg d (- -b.a) (- -b.b)=1;rw[Int.neg_neg,Int.neg_neg];exact sb)⟩⟩
  ·exact⟨AE trivial rfl,.inl rfl⟩
  ·exact⟨AE (by show 2<=1000;decide) rfl,.inl rfl⟩
  ·exact⟨AE (by show 4<=1000;decide) rfl,.inl rfl⟩
  ·exact⟨AE G3 no3,.inl no3⟩
  ·exact⟨AE fo no,.inl no⟩)
 rw[et]
 exact q t _ f1 f2 (s1.trans (s2.trans s3))
end
noncomputable def zy:DSp:=fun ds U Q=>∃(x y w h:N3),ds=[.v (.tuple [dN x,dN y,dN w,dN h])]/\Ok x/\Ok y/\Ok w/\Ok h/\Bd 4200 x/\Bd 4200 y/\Bd 4200 w/\Bd 4200 h/\Q (.v (.tuple [dN x,dN (plus x w),dN y,dN (plus y h)])) U
theorem HG{ds:List D}{U:Mu}{Q:DK}(h:zy ds U Q):ds.length=1:=by obtain⟨_,_,_,_,rfl,_⟩:=h;rfl
def inS(d:Int)(e x:N3):Bool:=!decide (dif d bL x=1)&&decide (dif d e x=1)
noncomputable def Az:DSp:=fun ds U Q=>∃(d:Int) (s x y:N3),ds=[.v (.int d),.v (.tuple [dN bL,dN bL,dN one,dN s]),.v (dN x),.v (dN y)]/\bu d/\Ok s/\Ok x/\Ok y/\Bd 3200 s/\Bd 3200 x/\Bd 3200 y/\Q (.v (.bool (inS d one x&&inS d s y))) U
theorem JC{ds:List D}{U:Mu}{Q:DK}(h:Az ds U Q):ds.length=4:=by obtain⟨_,_,_,_,rfl,_⟩:=h;rfl
noncomputable def Ds:XSp:=fun ds U Xk=>∃(d:Int) (s:N3) (t u:PyData),ds=[.v (.int d),.v (dN s),.v t,.v u]/\bu d/\Ok s/\Bd 3200 s/\GQ t/\GQ u/\(Mo d one t\/Mo d s u)/\Xk U
theorem Jv{ds:List D}{U:Mu}{Xk:Mu->Prop}(h:Ds ds U Xk):ds.length=4:=by obtain⟨_,_,_,_,rfl,_⟩:=h;rfl
noncomputable def Sub(U Y:Mu):Prop:=∀b ds,U b=some ds->Y b=some ds
noncomputable def vJ:XSp:=fun ds U Xk=>∃(d:Int) (k:PyData) (z:D),ds=[.v (.int d),.v k,z]/\bu d/\KT d k/\uc d k=false/\Xk U
theorem FO{ds:List D}{U:Mu}{Xk:Mu->Prop}(h:vJ ds U Xk):ds.length=3:=by obtain⟨_,_,_,rfl,_⟩:=h;rfl
noncomputable def D5:XSp:=fun ds U Xk=>∃(d:Int) (k:PyData) (z z':D),ds=[.v (.int d),.v k,z,z']/\bu d/\KT d k/\uc d k=false/\Xk U
theorem Nh{ds:List D}{U:Mu}{Xk:Mu->Prop}(h:D5 ds U Xk):ds.length=4:=by obtain⟨_,_,_,_,rfl,_⟩:=h;rfl
noncomputable def FW:XSp:=fun ds U Xk=>∃(d:Int) (k:PyData) (z z' z'':D),ds=[.v (.int d),.v k,z,z',z'']/\bu d/\KT d k/\uc d k=false/\Xk U
theorem Nr{ds:List D}{U:Mu}{Xk:Mu->Prop}(h:FW ds U Xk):ds.length=5:=by obtain⟨_,_,_,_,_,rfl,_⟩:=h;rfl
noncomputable def NoP(ks:List N3)(t:PyData):Prop:=Sh t/\okN (cnt (ks.length:Nat) 12 t)=false
noncomputable def OP(ks:List N3)(t:PyData):Prop:=Sh t/\okN (cnt (ks.length:Nat) 12 t)=true
noncomputable def zH:XSp:=fun ds U Xk=>∃(d:Int) (ks:List N3) (t:PyData),ds=[.v (.int d),.v (.tuple (ks.map dN)),.v t]/\bu d/\KindsOk d ks/\NoP ks t/\∀Y,Sub U Y->Xk Y
theorem Fs{ds:List D}{U:Mu}{Xk:Mu->Prop}(h:zH ds U Xk):ds.length=3:=by obtain⟨_,_,_,rfl,_⟩:=h;rfl
noncomputable def K7:XSp:=fun ds U Xk=>∃(d:Int) (ks:List N3) (t:PyData) (z:D),ds=[.v (.int d),.v (.tuple (ks.map dN)),.v t,z]/\bu d/\KindsOk d ks/\NoP ks t/\∀Y,Sub U Y->Xk Y
theorem NJ{ds:List D}{U:Mu}{Xk:Mu->Prop}(h:K7 ds U Xk):ds.length=4:=by obtain⟨_,_,_,_,rfl,_⟩:=h;rfl
noncomputable def EF:XSp:=fun ds U Xk=>∃(d:Int) (ks:List N3) (t:PyData) (z z':D),ds=[.v (.int d),.v (.tuple (ks.map dN)),.v t,z,z']/\bu d/\KindsOk d ks/\NoP ks t/\∀Y,Sub U Y->Xk Y
theorem MB{ds:List D}{U:Mu}{Xk:Mu->Prop}(h:EF ds U Xk):ds.length=5:=by obtain⟨_,_,_,_,_,rfl,_⟩:=h;rfl
noncomputable def Ap:XSp:=fun ds U Xk=>∃(d:Int) (ks:List N3) (t:PyData) (s:N3) (x y:PyData),ds=[.v (.int d),.v (.tuple (ks.map dN)),.v t,.v x,.v y]/\bu d/\KindsOk d ks/\OP ks t/\SP d ks 13 t s/\Ok s/\Bd 3200 s/\GQ x/\GQ y/\(Mo d one x\/Mo d s y)/\∀Y,Sub U Y->Xk Y
theorem MR{ds:List D}{U:Mu}{Xk:Mu->Prop}(h:Ap ds U Xk):ds.length=5:=by obtain⟨_,_,_,_,_,_,rfl,_⟩:=h;rfl
noncomputable def Ej:XSp:=fun ds U Xk=>∃(d:Int) (ks:List N3) (t w:PyData),ds=[.v (.int d),.v (.tuple (ks.map dN)),.v t,.v w]/\bu d/\KindsOk d ks/\OP ks t/\QX d w/\∀Y,Sub U Y->Xk Y
theorem MJ{ds:List D}{U:Mu}{Xk:Mu->Prop}(h:Ej ds U Xk):ds.length=4:=by obtain⟨_,_,_,_,rfl,_⟩:=h;rfl
noncomputable def Kr:XSp:=fun ds U Xk=>∃(d:Int) (ks:List N3) (t:PyData) (w:N3) (n:Int),ds=[.v (.int d),.v (.tuple (ks.map dN)),.v t,.v (dN w)]/\bu d/\KindsOk d ks/\OP ks t/\Ok w/\Bd 4300 w/\sg d w.a w.b=1/\TP 13 t n/\60<n/\∀Y,Sub U Y->Xk Y
theorem MO{ds:List D}{U:Mu}{Xk:Mu->Prop}(h:Kr ds U Xk):ds.length=4:=by obtain⟨_,_,_,_,_,rfl,_⟩:=h;rfl
noncomputable def uE:DTS:=
 (aY (bJ (ag 0) (iP 4 (bS (ar 1) (bS (ar 2) (bS (ar 3) (bS (ar 4) i7))))))
 (bM (bj (ae (ag 1) (ae (aB qd (ae (ag 1) (ae (ag 3) ai))) (ae (ag 2) (ae (aB qd (ae (ag 2) (ae (ag 4) ai))) ai)))))))
noncomputable def uH:DTS:=
 (aY (bJ (aB zy (ae (ag 1) ai)) (iP 4 (bS (ar 4) (bS (ar 5) (bS (ar 6) (bS (ar 7) i7))))))
 (aY (cZ (qL (dB (aB vd (ae (ag 0) (ae (ag 4) (ae (ag 2) ai))))) (dB (aB vd (ae (ag 0) (ae (ag 6) (ae (ag 3) ai)))))) (bM (dC (.bool false))) cg)
 (bM (lN (aB vd (ae (ag 0) (ae (ag 5) (ae (ag 2) ai)))) (aB vd (ae (ag 0) (ae (ag 7) (ae (ag 3) ai))))))))
noncomputable def gq:DTX:=
 (xIf (qL (iQ (dB (aB tR (ae (ag 2) ai)))) (qL (iQ (dB (aB tR (ae (ag 3) ai)))) (iQ (dB (aB Az (ae (ag 0) (ae (bj (ae (dC (.tuple [.int 0,.int 0,.int 1])) (ae (dC (.tuple [.int 0,.int 0,.int 1])) (ae (dC (.tuple [.int 1,.int 0,.int 1])) (ae (ag 1) ai))))) (ae (ag 2) (ae (ag 3) ai))))))))) (fun _ U Xk=>Xk U) BG)
noncomputable def ic:DTX:=
 (fe pX (ae (ag 0) (ae (ag 1) ai)))
noncomputable def gB:DTX:=
 (fe pX (ae (ag 0) (ae (ag 1) ai)))
noncomputable def iV:DTX:=
 (fe pX (ae (ag 0) (ae (ag 1) ai)))
noncomputable def ip:DTX:=
 (fe pX (ae (ag 0) (ae (ag 1) ai)))
noncomputable def iS:DTX:=
 (As (kN (aB dQ (ae (ag 0) (ae (ag 1) ai))))
 (fe ig (ae (ag 2) (ae (dCB cI (ae (ag 1) ai)) ai))))
noncomputable def gX:DTX:=
 (As (kN (aB dQ (ae (ag 0) (ae (ag 1) ai))))
 (fe ig (ae (ag 2) (ae (dCB cI (ae (ag 1) ai)) ai))))
noncomputable def jn:DTX:=
 (As (kN (aB dQ (ae (ag 0) (ae (ag 1) ai))))
 (fe ig (ae (ag 2) (ae (dCB cI (ae (ag 1) ai)) ai))))
noncomputable def i6:DTX:=
 (As (kN (aB dQ (ae (ag 0) (ae (ag 1) ai))))
 (fe ig (ae (ag 2) (ae (dCB cI (ae (ag 1) ai)) ai))))
noncomputable def jw:DTX:=
 (As (kN (aB dQ (ae (ag 0) (ae (ag 1) ai))))
 (As (kN (aB jD (ae (ag 2) (ae (dCB cI (ae (ag 1) ai)) ai))))
 (As (bJ (aB (mJ 13) (ae (ag 0) (ae (ag 1) (ae (ag 2) ai)))) (ar 5))
 (fe Ds (ae (ag 0) (ae (ag 5) (ae (ag 3) (ae (ag 4) ai))))))))
noncomputable def gZ:DTX:=
 (As (kN (aB dQ (ae (ag 0) (ae (ag 1) ai))))
 (As (kN (aB jD (ae (ag 2) (ae (dCB cI (ae (ag 1) ai)) ai))))
 (fe xn (ae (ag 0) (ae (ag 3) ai)))))
noncomputable def ik:DTX:=
 (As (kN (aB dQ (ae (ag 0) (ae (ag 1) ai))))
 (As (kN (aB jD (ae (ag 2) (ae (dCB cI (ae (ag 1) ai)) ai))))
 (As (kN (aB qQ (ae (ag 0) (ae (ag 3) ai))))
 (xIf (dB (dOp rGt (aB (kv 13) (ae (ag 2) ai)) (dC (.int 60)))) (fun _ U Xk=>Xk U) BG))))
noncomputable def kD(ea:Addr):DTS:=
 (aY (bJ (ff (ae (bj (ae (dC (.str "NoRoot")) (ae (cF ea false (ag 1)) ai))) (ae (bj (ae (dC (.str "NoNumber")) (ae (cF ea false (ag 1)) ai))) (ae (bj (ae (dC (.str "NoLaying")) (ae (cF ea false (ag 1)) ai))) (ae (bj (ae (dC (.str "NoTile")) (ae (cF ea false (ag 1)) ai))) (ae (bj (ae (dC (.str "NoFit")) (ae (cF ea false (ag 1)) ai))) (ae (bj (ae (dC (.str "NoKinds")) (ae (cF ea false (ag 1)) ai))) (ae (bj (ae (dC (.str "NoPlan")) (ae (cF ea false (ag 1)) ai))) (ae (bj (ae (dC (.str "NoSpot")) (ae (cF ea true (ag 1)) ai))) (ae (bj (ae (dC (.str "NoNet")) (ae (cF ea false (ag 1)) ai))) (ae (bj (ae (dC (.str "NoText")) (ae (cF ea false (ag 1)) ai))) (ae (bj (ae (dC (.str "NoSaying")) (ae (cF ea false (ag 1)) ai))) (ae (bj (ae (dC (.str "NoName")) (ae (cF ea false (ag 1)) ai))) (ae (bj (ae (dC (.str "TooMany")) (ae (cF ea false (ag 1)) ai))) ai)))))))))))))) (ar 2))
 (aY (bJ (dJ [none,none] (gb (ag 2)) (iP 2 (bS (ar 0) (bS (ar 1) i7))) (dB (ag 1)) (ag 0)) (ar 3))
 (aY (cZ (lL (dB (dOp (cW false) (dCB cI (ae (ag 3) ai)) (dC (.int 1)))) (dB (cF ea true (ag 1)))) (bM (dOp aI (ag 3) (dC (.int 0)))) cg)
 (bM (dC (.str "several"))))))
noncomputable def jJ(ea:Addr):DTS:=
 (aY (bJ (ff (ae (bj (ae (dC (.str "NoRoot")) (ae (cF ea false (ag 1)) ai))) (ae (bj (ae (dC (.str "NoNumber")) (ae (cF ea false (ag 1)) ai))) (ae (bj (ae (dC (.str "NoLaying")) (ae (cF ea false (ag 1)) ai))) (ae (bj (ae (dC (.str "NoTile")) (ae (cF ea false (ag 1)) ai))) (ae (bj (ae (dC (.str "NoFit")) (ae (cF ea false (ag 1)) ai))) (ae (bj (ae (dC (.str "NoKinds")) (ae (cF ea false (ag 1)) ai))) (ae (bj (ae (dC (.str "NoPlan")) (ae (cF ea false (ag 1)) ai))) (ae (bj (ae (dC (.str "NoSpot")) (ae (cF ea false (ag 1)) ai))) (ae (bj (ae (dC (.str "NoNet")) (ae (cF ea false (ag 1)) ai))) (ae (bj (ae (dC (.str "NoText")) (ae (cF ea false (ag 1)) ai))) (ae (bj (ae (dC (.str "NoSaying")) (ae (cF ea false (ag 1)) ai))) (ae (bj (ae (dC (.str "NoName")) (ae (cF ea false (ag 1)) ai))) (ae (bj (ae (dC (.str "TooMany")) (ae (cF ea true (ag 1)) ai))) ai)))))))))))))) (ar 2))
 (aY (bJ (dJ [none,none] (gb (ag 2)) (iP 2 (bS (ar 0) (bS (ar 1) i7))) (dB (ag 1)) (ag 0)) (ar 3))
 (aY (cZ (lL (dB (dOp (cW false) (dCB cI (ae (ag 3) ai)) (dC (.int 1)))) (dB (cF ea true (ag 1)))) (bM (dOp aI (ag 3) (dC (.int 0)))) cg)
 (bM (dC (.str "several"))))))
section
variable {U:Mu}{Qd:DK}{ds:List D}{Xk:Mu->Prop}
theorem IV(h:zy ds U Qd):uE ‹Qd› (aS ["","","","",""] ds) U:=by
 obtain⟨x,y,w,h,rfl,ox,oy,ow,oh,bx,by_,bw,bh,q⟩:=h
 unfold uE
 walk_at "rl"
 refine⟨trivial,x,w,rfl,ox,ow,bx.mono ⋯,bw.mono ⋯,?_⟩
 walk_at "rl"
 refine⟨y,h,rfl,oy,oh,by_.mono ⋯,bh.mono ⋯,?_⟩
 exact q
theorem HJ(h:Az ds U Qd):uH ‹Qd› (aS ["","","","","","","",""] ds) U:=by
 obtain⟨d,s,x,y,rfl,hd,os,ox,oy,bs,bx,by_,q⟩:=h
 have b1:Bd 1 one:=⟨Sz.of ⋯,Sz.of ⋯,Sz.of ⋯⟩
 have b0:Bd 1 bL:=⟨Sz.of ⋯,Sz.of ⋯,Sz.of ⋯⟩
 unfold uH
 walk_at "rl"
 refine⟨bL,bL,one,s,rfl,fV,fV,qf,os,b0.mono ⋯,b0.mono ⋯,b1.mono ⋯,bs.mono ⋯,?_⟩
 rw[Xu qf,Xu os]
 walk_at "rl"
 refine⟨trivial,d,bL,x,rfl,hd,b0.mono ⋯,bx.mono ⋯,?_⟩
 unfold inS at q
 cases h1:decide (dif d bL x=1) with
 |true=>rw[h1] at q;walk_at "rl";exact q
 |false=>
  rw[h1] at q
  walk_at "rl"
  refine⟨d,bL,y,rfl,hd,b0.mono ⋯,by_.mono ⋯,?_⟩
  cases h2:decide (dif d bL y=1) with
  |true=>rw[h2] at q;walk_at "rl";rw[Bool.not_true,Bool.false_and,Bool.and_false] at q;exact q
  |false=>
   rw[h2] at q
   walk_at "rl"
   refine⟨d,one,x,rfl,hd,b1.mono ⋯,bx.mono ⋯,?_⟩
   cases h3:decide (dif d one x=1) with
   |false=>rw[h3] at q;walk_at "rl";exact q
   |true=>
    rw[h3] at q
    walk_at "rl"
    refine⟨d,s,y,rfl,hd,bs.mono ⋯,by_.mono ⋯,?_⟩
    exact q
theorem Rj{d:Int}{e x:N3}(h:Mo d e (dN x))(ox:Ok x):inS d e x=false:=by
 rcases h with h|⟨y,e1,h⟩
 ·rw[Ku ox] at h;cases h
 ·rw[<- IU e1] at h
  unfold inS
  rcases h with h|h
  ·rw[decide_eq_true h];rfl
  ·rw[decide_eq_false h,Bool.and_false]
theorem tG(h:Ds ds U Xk):gq (aS ["","","",""] ds) U Xk:=by
 obtain⟨d,s,t,u,rfl,hd,os,bs,at',au,hb,q⟩:=h
 unfold gq
 rw[J5]
 walk_at "rl"
 refine⟨t,rfl,at'.1,?_⟩
 cases e1:isNum t with
 |false=>walk_at "rl";exact q
 |true=>
  walk_at "rl"
  refine⟨u,rfl,au.1,?_⟩
  cases e2:isNum u with
  |false=>walk_at "rl";exact q
  |true=>
   walk_at "rl"
   obtain⟨x,rfl,ox,bx⟩:=at'.2.resolve_left (by rw[e1];decide)
   obtain⟨y,rfl,oy,by_⟩:=au.2.resolve_left (by rw[e2];decide)
   refine⟨d,s,x,y,rfl,hd,os,ox,oy,bs,bx,by_,?_⟩
   have:(inS d one x&&inS d s y)=false:=by
    rcases hb with hb|hb
    ·rw[Rj hb ox,Bool.false_and]
    ·rw[Rj hb oy,Bool.and_false]
   rw[this]
   exact q
theorem wj(h:vJ ds U Xk):ic (aS ["","",""] ds) U Xk:=by
 obtain⟨d,k,z,rfl,g⟩:=h
 unfold ic
 rw[nN]
 walk_at "rl"
 exact⟨d,k,rfl,g⟩
theorem uf(h:vJ ds U Xk):gB (aS ["","",""] ds) U Xk:=by
 obtain⟨d,k,z,rfl,g⟩:=h
 unfold gB
 rw[nN]
 walk_at "rl"
 exact⟨d,k,rfl,g⟩
theorem xO(h:FW ds U Xk):iV (aS ["","","","","","","",""] ds) U Xk:=by
 obtain⟨d,k,z,z',z'',rfl,g⟩:=h
 unfold iV
 rw[nN]
 walk_at "rl"
 exact⟨d,k,rfl,g⟩
theorem wW(h:D5 ds U Xk):ip (aS ["","","","","",""] ds) U Xk:=by
 obtain⟨d,k,z,z',rfl,g⟩:=h
 unfold ip
 rw[nN]
 walk_at "rl"
 exact⟨d,k,rfl,g⟩
theorem xI(h:zH ds U Xk):iS (aS ["","",""] ds) U Xk:=by
 obtain⟨d,ks,t,rfl,hd,hk,np,q⟩:=h
 unfold iS
 rw[oO]
 walk_at "rl"
 refine⟨d,ks,rfl,hd,hk.l1,hk.l3,hk.wide.ok,?_⟩
 walk_at "rl"
 rw[nN]
 walk_at "rl"
 rw[length_map]
 exact⟨t,_,rfl,np.1,np.2,q⟩
theorem vy(h:zH ds U Xk):gX (aS ["","",""] ds) U Xk:=by
 obtain⟨d,ks,t,rfl,hd,hk,np,q⟩:=h
 unfold gX
 rw[oO]
 walk_at "rl"
 refine⟨d,ks,rfl,hd,hk.l1,hk.l3,hk.wide.ok,?_⟩
 walk_at "rl"
 rw[nN]
 walk_at "rl"
 rw[length_map]
 exact⟨t,_,rfl,np.1,np.2,q⟩
theorem zj(h:EF ds U Xk):jn (aS ["","","","","","","",""] ds) U Xk:=by
 obtain⟨d,ks,t,z,z',rfl,hd,hk,np,q⟩:=h
 unfold jn
 rw[oO]
 walk_at "rl"
 refine⟨d,ks,rfl,hd,hk.l1,hk.l3,hk.wide.ok,?_⟩
 walk_at "rl"
 rw[nN]
 walk_at "rl"
 rw[length_map]
 exact⟨t,_,rfl,np.1,np.2,q⟩
theorem xF(h:K7 ds U Xk):i6 (aS ["","","","","",""] ds) U Xk:=by
 obtain⟨d,ks,t,z,rfl,hd,hk,np,q⟩:=h
 unfold i6
 rw[oO]
 walk_at "rl"
 refine⟨d,ks,rfl,hd,hk.l1,hk.l3,hk.wide.ok,?_⟩
 walk_at "rl"
 rw[nN]
 walk_at "rl"
 rw[length_map]
 exact⟨t,_,rfl,np.1,np.2,q⟩
theorem yZ(h:Ap ds U Xk):jw (aS ["","","","","","","",""] ds) U Xk:=by
 obtain⟨d,ks,t,s,x,y,rfl,hd,hk,yp,sp,os,bs,ax,ay,hb,q⟩:=h
 unfold jw
 rw[oO]
 walk_at "rl"
 refine⟨d,ks,rfl,hd,hk.l1,hk.l3,hk.wide.ok,?_⟩
 walk_at "rl"
 rw[oO]
 walk_at "rl"
 rw[length_map]
 refine⟨t,_,rfl,yp.1,yp.2,fun ac k1=>?_⟩
 walk_at "rl"
 rw[oO]
 walk_at "rl"
 refine⟨d,ks,false,t,s,rfl,hd,yp.1,sp,fun ad k2=>?_⟩
 walk_at "rl"
 rw[nN]
 walk_at "rl"
 exact⟨d,s,x,y,rfl,hd,os,bs,ax,ay,hb,q _ fun b ds e=>k2 b ds (k1 b ds e)⟩
theorem vw(h:Ej ds U Xk):gZ (aS ["","","","","",""] ds) U Xk:=by
 obtain⟨d,ks,t,w,rfl,hd,hk,yp,bw,q⟩:=h
 unfold gZ
 rw[oO]
 walk_at "rl"
 refine⟨d,ks,rfl,hd,hk.l1,hk.l3,hk.wide.ok,?_⟩
 walk_at "rl"
 rw[oO]
 walk_at "rl"
 rw[length_map]
 refine⟨t,_,rfl,yp.1,yp.2,fun ac k1=>?_⟩
 walk_at "rl"
 rw[nN]
 walk_at "rl"
 exact⟨d,w,rfl,hd,bw.1,bw.2.1,bw.2.2,q _ k1⟩
theorem vS(h:Kr ds U Xk):ik (aS ["","","","","",""] ds) U Xk:=by
 obtain⟨d,ks,t,w,n,rfl,hd,hk,yp,ow,bw,sw,tp,hn,q⟩:=h
 unfold ik
 rw[oO]
 walk_at "rl"
 refine⟨d,ks,rfl,hd,hk.l1,hk.l3,hk.wide.ok,?_⟩
 walk_at "rl"
 rw[oO]
 walk_at "rl"
 rw[length_map]
 refine⟨t,_,rfl,yp.1,yp.2,fun ac k1=>?_⟩
 walk_at "rl"
 rw[oO]
 walk_at "rl"
 refine⟨d,w,rfl,hd,ow,bw.mono ⋯,sw,?_⟩
 walk_at "rl"
 rw[J5]
 walk_at "rl"
 refine⟨t,n,rfl,yp.1,tp,fun ad k2=>?_⟩
 walk_at "rl"
 rw[if_pos (by simpa using hn)]
 exact q _ fun b ds e=>k2 b ds (k1 b ds e)
theorem tT{U:Mu}{Qd:DK}{ea fa:Addr}(q:Qd (.v (.str "NoSpot")) U):kD ea {nx:=fun _ _=>False,rt:=Qd} [some (.o fa),some (.o ea),none,none] U:=by
 unfold kD
 simp only[↓qF,↓Fe,↓CG,↓Cq,↓gv,↓kf,↓q_c,↓rX,↓CS,↓CQ,↓eW,map_some,set_cons_zero,set_cons_succ]
 refine wK (ns:=[("NoRoot",false),("NoNumber",false),("NoLaying",false),("NoTile",false),("NoFit",false),("NoKinds",false),("NoPlan",false),("NoSpot",true),("NoNet",false),("NoText",false),("NoSaying",false),("NoName",false),("TooMany",false)]) rfl ⋯ ?_
 simp only[↓eW,↓qF,set_cons_zero,set_cons_succ,map_cons,map_nil,filterMap_cons,List.filterMap_nil,Jq,false_eq_true,↓reduceIte]
 simp only[↓D0,↓yj,↓q_B,↓Mr,↓Ke,↓gv,↓kf,↓wX,↓wa,↓q_c,↓Ct,↓rX,↓CD,↓wo,getElem?_cons_zero,getElem?_cons_succ,length_cons,length_nil]
 exact q
theorem sM{U:Mu}{Qd:DK}{ea fa:Addr}(q:Qd (.v (.str "TooMany")) U):jJ ea {nx:=fun _ _=>False,rt:=Qd} [some (.o fa),some (.o ea),none,none] U:=by
 unfold jJ
 simp only[↓qF,↓Fe,↓CG,↓Cq,↓gv,↓kf,↓q_c,↓rX,↓CS,↓CQ,↓eW,map_some,set_cons_zero,set_cons_succ]
 refine wK (ns:=[("NoRoot",false),("NoNumber",false),("NoLaying",false),("NoTile",false),("NoFit",false),("NoKinds",false),("NoPlan",false),("NoSpot",false),("NoNet",false),("NoText",false),("NoSaying",false),("NoName",false),("TooMany",true)]) rfl ⋯ ?_
 simp only[↓eW,↓qF,set_cons_zero,set_cons_succ,map_cons,map_nil,filterMap_cons,List.filterMap_nil,Jq,false_eq_true,↓reduceIte]
 simp only[↓D0,↓yj,↓q_B,↓Mr,↓Ke,↓gv,↓kf,↓wX,↓wa,↓q_c,↓Ct,↓rX,↓CD,↓wo,getElem?_cons_zero,getElem?_cons_succ,length_cons,length_nil]
 exact q
end
noncomputable def Ag:DSp:=fun ds U Q=>∃(a:Addr) (d:Int) (ks:List N3) (t:PyData) (dd c:Nat) (x:N3),ds=[.m a,.v (.int d),.v (.tuple (ks.map dN)),.v t]/\bu d/\KindsOk d ks/\IsP (ks.length:Nat) dd c t/\dd<=12/\OP ks t/\SP d ks 13 t x/\Ok x/\Bd 3120 x/\sg d x.a x.b=1/\Bag U a/\∀Y,kx a U Y->Q (.v (.bool true)) Y
theorem Il{ds:List D}{U:Mu}{Q:DK}(h:Ag ds U Q):ds.length=4:=by obtain⟨_,_,_,_,_,_,_,rfl,_⟩:=h;rfl
noncomputable def i5(P0:PQ)(P1:PQ)(P2:PQ)(P3:PQ)(P4:PQ)(P5:PQ)(P6:PQ)(P7:PQ)(P8:PQ)(P9:PQ)(P10:PQ)(P11:PQ)(P12:PQ)(P13:PQ)(P14:PQ)(P15:PQ)(P16:PQ)(P17:PQ):DTS:=
 (aY (bJ (bj (ae (bj (ae (dC (.int 0)) (ae (dC (.int 0)) (ae (dC (.int 1)) ai)))) (ae (bj (ae (dC (.int 1)) (ae (dC (.int 0)) (ae (dC (.int 1)) ai)))) ai))) (iP 2 (bS (ar 4) (bS (ar 5) i7))))
 (aY (bJ (bj (ae (aB uh (ae (ag 0) (ae (ag 1) (ae (ag 2) ai)))) (ae (aB Du (ae (ag 0) (ae (ag 3) (ae (dCB cI (ae (ag 2) ai)) ai)))) ai))) (iP 2 (bS (ar 6) (bS (ar 7) i7))))
 (aY (bJ (aB (fT 13) (ae (ag 1) (ae (ag 2) (ae (ag 3) ai)))) (ar 8))
 (aY (bJ (bj (ae (aB rY (ae (ag 0) (ae (ag 1) (ae (ag 5) ai)))) (ae (aB rY (ae (ag 0) (ae (ag 1) (ae (ag 8) ai)))) (ae (aB qh (ae (ag 0) (ae (ag 1) ai))) ai)))) (iP 3 (bS (ar 9) (bS (ar 10) (bS (ar 11) i7)))))
 (aY (bJ (bj (ae (dC (.str "grid")) (ae (jB (dC (.int 61)) (aB bX (ae (ag 0) (ae (dC (.int 40)) ai)))) (ae (jB (dC (.int 1)) (aB bX (ae (ag 0) (ae (dC (.int 40)) ai)))) (ae (bj (ae (dC (.str "kind")) (ae (dC (.int 0)) ai))) ai))))) (ar 12))
 (aY (bJ (PR (ae (j3 (ae (dC (.str "NoKinds")) (ae (dKq P0) ai))) (ae (j3 (ae (dC (.str "NoKinds")) (ae (dKq P1) ai))) (ae (j3 (ae (dC (.str "NoPlan")) (ae (dKq P2) ai))) (ae (j3 (ae (dC (.str "NoKinds")) (ae (dKq P3) ai))) (ae (j3 (ae (dC (.str "NoPlan")) (ae (dKq P4) ai))) (ae (j3 (ae (dC (.str "NoKinds")) (ae (dKq P5) ai))) (ae (j3 (ae (dC (.str "NoKinds")) (ae (dKq P6) ai))) (ae (j3 (ae (dC (.str "NoPlan")) (ae (dKq P7) ai))) (ae (j3 (ae (dC (.str "NoPlan")) (ae (dKq P8) ai))) (ae (j3 (ae (dC (.str "NoSpot")) (ae (dKq P9) ai))) (ae (j3 (ae (dC (.str "NoSpot")) (ae (dKq P10) ai))) (ae (j3 (ae (dC (.str "NoSpot")) (ae (dKq P11) ai))) (ae (j3 (ae (dC (.str "NoKinds")) (ae (dKq P12) ai))) (ae (j3 (ae (dC (.str "NoKinds")) (ae (dKq P13) ai))) (ae (j3 (ae (dC (.str "NoPlan")) (ae (dKq P14) ai))) (ae (j3 (ae (dC (.str "NoNumber")) (ae (dKq P15) ai))) (ae (j3 (ae (dC (.str "NoNumber")) (ae (dKq P16) ai))) (ae (j3 (ae (dC (.str "TooMany")) (ae (dKq P17) ai))) ai))))))))))))))))))) (ar 13))
 (bM (dCB CF (ae (IQ [none,none] (ag 13) (Q8 2 (FR (ar 0) (FR (ar 1) R1))) (fun mt G=>(dOp (cW false) (Rg mt G 2 1 [⟨P0,[some 1,some 6,some 3],(ej (fe vJ (ae (ag 0) (ae (ag 1) (ae (ag 2) ai))))),.str "NoKinds"⟩,⟨P1,[some 1,some 6],(ej (fe vJ (ae (ag 0) (ae (ag 1) (ae (dC .none) ai))))),.str "NoKinds"⟩,⟨P2,[some 1,some 2,some 7],(ej (fe zH (ae (ag 0) (ae (ag 1) (ae (ag 2) ai))))),.str "NoPlan"⟩,⟨P3,[some 1,some 6,some 7],(ej (fe vJ (ae (ag 0) (ae (ag 1) (ae (ag 2) ai))))),.str "NoKinds"⟩,⟨P4,[some 1,some 2,some 7],(ej (fe zH (ae (ag 0) (ae (ag 1) (ae (ag 2) ai))))),.str "NoPlan"⟩,⟨P5,[some 1,some 6,some 3,some 4],(ej (fe FW (ae (ag 0) (ae (ag 1) (ae (ag 2) (ae (ag 3) (ae (ag 3) ai))))))),.str "NoKinds"⟩,⟨P6,[some 1,some 6,some 7,some 9,some 10],(ej (fe FW (ae (ag 0) (ae (ag 1) (ae (ag 2) (ae (ag 3) (ae (ag 4) ai))))))),.str "NoKinds"⟩,⟨P7,[some 1,some 2,some 7,some 4],(ej (fe EF (ae (ag 0) (ae (ag 1) (ae (ag 2) (ae (ag 3) (ae (ag 3) ai))))))),.str "NoPlan"⟩,⟨P8,[some 1,some 2,some 7,some 9,some 10],(ej (fe EF (ae (ag 0) (ae (ag 1) (ae (ag 2) (ae (ag 3) (ae (ag 4) ai))))))),.str "NoPlan"⟩,⟨P9,[some 1,some 2,some 3,some 9,some 4],(ej (fe Ap (ae (ag 0) (ae (ag 1) (ae (ag 2) (ae (ag 3) (ae (ag 4) ai))))))),.str "NoSpot"⟩,⟨P10,[some 1,some 2,some 3,some 4,some 10],(ej (fe Ap (ae (ag 0) (ae (ag 1) (ae (ag 2) (ae (ag 3) (ae (ag 4) ai))))))),.str "NoSpot"⟩,⟨P11,[some 1,some 2,some 3,some 9,some 10],(ej (fe Ap (ae (ag 0) (ae (ag 1) (ae (ag 2) (ae (ag 3) (ae (ag 4) ai))))))),.str "NoSpot"⟩,⟨P12,[some 1,some 6,some 3,some 5],(ej (fe D5 (ae (ag 0) (ae (ag 1) (ae (ag 2) (ae (ag 3) ai)))))),.str "NoKinds"⟩,⟨P13,[some 1,some 6,some 7,some 11],(ej (fe D5 (ae (ag 0) (ae (ag 1) (ae (ag 2) (ae (ag 3) ai)))))),.str "NoKinds"⟩,⟨P14,[some 1,some 2,some 7,some 11],(ej (fe K7 (ae (ag 0) (ae (ag 1) (ae (ag 2) (ae (ag 3) ai)))))),.str "NoPlan"⟩,⟨P15,[some 1,some 2,some 3,some 11],(ej (fe Ej (ae (ag 0) (ae (ag 1) (ae (ag 2) (ae (ag 3) ai)))))),.str "NoNumber"⟩,⟨P16,[some 1,some 2,some 12,some 11],(ej (fe Ej (ae (ag 0) (ae (ag 1) (ae (ag 2) (ae (ag 3) ai)))))),.str "NoNumber"⟩,⟨P17,[some 1,some 2,some 12,some 5],(ej (fe Kr (ae (ag 0) (ae (ag 1) (ae (ag 2) (ae (ag 3) ai)))))),.str "TooMany"⟩]) (ag 0)))) ai)))))))))
noncomputable def Mc:DTS:=
 (aY (GR (uB (ae (dCB (K9 max) (ae (dC (.int 2)) (ae (dCB (K9 min) (ae (dC (.int 6)) (ae (dCB cI (ae (ag 0) ai)) ai))) ai))) ai)) (ar 1) (aY (bJ (aB NX (ae (ag 0) (ae (ag 1) ai))) (ar 2))
 (aY (bJ (aB Dz (ae (ag 2) ai)) (ar 3))
 (aY (bJ (aB AI (ae (ag 2) (ae (ag 3) ai))) (ar 4))
 (aY (bJ (aB Dt (ae (ag 2) (ae (dCB cI (ae (ag 4) ai)) ai))) (ar 5))
 (aY (bJ (aB OH (ae (ag 2) (ae (ag 3) (ae (ag 4) (ae (ag 5) ai))))) (ar 4))
 (aY (GR (uB (ae (dC (.int 2)) ai)) (ar 6) (cZ (iQ (dB (aB Ag (ae (ag 2) (ae (ag 3) (ae (ag 4) (ae (ag 5) ai))))))) (bM (dC (.bool false))) cg))
 (cZ (dB (dOp (cW true) (aB xq (ae (ag 3) (ae (ag 4) (ae (ag 5) ai)))) (aB (fT 13) (ae (ag 3) (ae (ag 4) (ae (ag 5) ai)))))) (bM (dC (.bool false))) cg))))))))
 (bM (dC (.bool true))))
section
variable {U:Mu}{Qd:DK}{ds:List D}
theorem RO{d:Int}{ks:List N3}{t:PyData}{dd c:Nat}(hd:bu d)(hk:KindsOk d ks)(hp:IsP (ks.length:Nat) dd c t)(hdd:dd<=12)(hc:c<=60)(h:c<=12\/∀k∈ks,Bd 4 k):∃x,OP ks t/\SP d ks 13 t x/\Ok x/\Bd 3120 x/\sg d x.a x.b=1:=by
 have key:∃w,26<=w/\c*w<=1563/\∀k∈ks,A9 d w 1 k:=by
  rcases h with h|h
  ·exact⟨67,⋯,∅,fun k z=>⟨(hk.ok k z).1,(hk.ok k z).2.2,NZ (hk.ok k z).1 (hk.ok k z).2.1⟩⟩
  ·exact⟨26,⋯,∅,fun k z=>⟨(hk.ok k z).1,(hk.ok k z).2.2,(NZ (hk.ok k z).1 (h k z)).mono ⋯⟩⟩
 obtain⟨w,h26,hcw,hf⟩:=key
 obtain⟨x,h1,h2⟩:=W8 hd h26 hf hp ∅ 12 hdd
 have c1:=hp.pos.2
 refine⟨x,⟨hp.lt.sh ∅,?_⟩,h1.up,h2.ok,(NR (Ba hd.1 hd.2.1) h2.ok h2.ht).mono ∅,h2.pos⟩
 rw[hp.cnt 12 hdd];unfold okN;rw[decide_eq_true (by omega:0<c),decide_eq_true hc];rfl
theorem s_num:SeqAt.shaped (.str "NoNumber")=true:=nofun
theorem WD:SeqAt.shaped (.str "NoKinds")=true:=nofun
theorem WE:SeqAt.shaped (.str "NoPlan")=true:=nofun
theorem Xe:SeqAt.shaped (.str "NoSpot")=true:=nofun
theorem W3:SeqAt.shaped (.str "TooMany")=true:=nofun
theorem XW{d:Int}{e:N3}:GQ (dN bL):=OA fV ⟨Sz.of nofun,Sz.of nofun,Sz.of nofun⟩
theorem kx.keep{a:Addr}{U ac ad:Mu}(h:kx a U ac)(k:∀b ds,ac b=some ds->ad b=some ds):kx a U ad:=h.trans (.of h.1 k)
theorem xD(P0 P1 P2 P3 P4 P5 P6 P7 P8 P9 P10 P11 P12 P13 P14 P15 P16 P17:PQ)(h:Ag ds U Qd):i5 P0 P1 P2 P3 P4 P5 P6 P7 P8 P9 P10 P11 P12 P13 P14 P15 P16 P17 ‹Qd› (aS ["","","","","","","","","","","","","",""] ds) U:=by
 obtain⟨a,d,ks,t,dd,c,s,rfl,hd,hk,hp,hdd,yp,sp,os,bs,ss,hb,q⟩:=h
 have l1:=hk.l1
 have l3:=hk.l3
 have b1:Bd 1 one:=⟨Sz.of ⋯,Sz.of ⋯,Sz.of ⋯⟩
 unfold i5
 walk_at "rl"
 refine⟨trivial,a,d,ks,rfl,hd,hk,hb,fun k ac k1 k2 s1=>?_⟩
 walk_at "rl"
 rw[length_map]
 refine⟨a,t,_,dd,c,rfl,∅,s1.1,hp,hdd,fun n ad sn nn s2=>?_⟩
 walk_at "rl"
 refine⟨trivial,d,ks,false,t,s,rfl,hd,yp.1,sp,fun ap k3=>?_⟩
 walk_at "rl"
 have s03:kx a U ap:=(s1.w.trans s2).keep k3
 refine⟨a,d,one,rfl,hd,qf,b1.mono ⋯,DF,s03.1,fun x ce ax bx s4=>?_⟩
 walk_at "rl"
 refine⟨a,d,s,rfl,hd,os,bs,ss,s4.1,fun y nb ay by_ s5=>?_⟩
 walk_at "rl"
 refine⟨a,d,rfl,hd,s5.1,fun w lf w1 w2 w3 s6=>?_⟩
 walk_at "rl"
 refine⟨trivial,a,40,rfl,⋯,⋯,s6.1,fun r kw r0 r1 s7=>?_⟩
 walk_at "rl"
 refine⟨a,40,rfl,⋯,⋯,s7.1,fun u jp u0 u1 s8=>?_⟩
 walk_at "rl"
 simp only[↓U2,↓V5,↓gv,↓kf,↓Ys,↓q_c]
 walk_at "rl"
 have gp:IsP (ks.length:Nat) 2 2 (.tuple [.str "grid",.int (61+r),.int (1+u),.tuple [.str "kind",.int 0]]):=.grid (61+r) (1+u) ∅ ∅ ∅ ∅ (.kind 0 ⋯ ∅)
 have gy:OP ks (.tuple [.str "grid",.int (61+r),.int (1+u),.tuple [.str "kind",.int 0]]):=⟨gp.lt.sh ⋯,by rw[gp.cnt 12 ⋯];rfl⟩
 have gt:TP 13 (.tuple [.str "grid",.int (61+r),.int (1+u),.tuple [.str "kind",.int 0]]) ((61+r)*(1+u)*1):=.grid _ _ ∅ ∅ ((Sz.of (n:=10) (by show _<1024;omega)).mono ⋯) ((Sz.of (n:=10) (by show _<1024;omega)).mono ⋯) ⋯ (.kind 0)
 have gn:60<(61+r)*(1+u)*1:=by
  rw[Int.mul_one]
  have:61*1<=(61+r)*(1+u):=Int.mul_le_mul ∅ ∅ ⋯ ∅
  omega
 have np:NoP ks n:=⟨sn,nn⟩
 have a0:GQ (dN bL):=@XW d one
 have rf:∀U:Mu,∀b ds,U b=some ds->U b=some ds:=fun _ _ _ e=>e
 generalize PyData.tuple [.str "grid",.int (61+r),.int (1+u),.tuple [.str "kind",.int 0]]=G at gy gt
 refine Mb rfl (by show 18<=1000;decide) ?_ ?_ ?_
 ·refine bE ?_ <| bE ?_ <| bE ?_ <| bE ?_ <| bE ?_ <| bE ?_ <| bE ?_ <| bE ?_ <| bE ?_ <| bE ?_ <| bE ?_ <| bE ?_ <| bE ?_ <| bE ?_ <| bE ?_ <| bE ?_ <| bE ?_ <| bE ?_ <| Er<;>first|exact WD|exact WE|exact Xe|exact s_num|exact W3
 ·refine bE ?_ <| bE ?_ <| bE ?_ <| bE ?_ <| bE ?_ <| bE ?_ <| bE ?_ <| bE ?_ <| bE ?_ <| bE ?_ <| bE ?_ <| bE ?_ <| bE ?_ <| bE ?_ <| bE ?_ <| bE ?_ <| bE ?_ <| bE ?_ <| Er<;>intro Y sub Xk hx
  ·exact (show vJ [.v (.int d),.v k,.v t] Y (fun bd=>(∀a ds,Y a=some ds->bd a=some ds)/\Xk Y) from ⟨d,k,_,rfl,hd,k1,k2,rf _,hx⟩)
  ·exact (show vJ [.v (.int d),.v k,.v .none] Y (fun bd=>(∀a ds,Y a=some ds->bd a=some ds)/\Xk Y) from ⟨d,k,_,rfl,hd,k1,k2,rf _,hx⟩)
  ·exact (show zH [.v (.int d),.v (.tuple (ks.map dN)),.v n] Y (fun bd=>(∀a ds,Y a=some ds->bd a=some ds)/\Xk Y) from ⟨d,ks,n,rfl,hd,hk,np,fun bd z=>⟨z,hx⟩⟩)
  ·exact (show vJ [.v (.int d),.v k,.v n] Y (fun bd=>(∀a ds,Y a=some ds->bd a=some ds)/\Xk Y) from ⟨d,k,_,rfl,hd,k1,k2,rf _,hx⟩)
  ·exact (show zH [.v (.int d),.v (.tuple (ks.map dN)),.v n] Y (fun bd=>(∀a ds,Y a=some ds->bd a=some ds)/\Xk Y) from ⟨d,ks,n,rfl,hd,hk,np,fun bd z=>⟨z,hx⟩⟩)
  ·exact (show FW [.v (.int d),.v k,.v t,.v (dN bL),.v (dN bL)] Y (fun bd=>(∀a ds,Y a=some ds->bd a=some ds)/\Xk Y) from ⟨d,k,_,_,_,rfl,hd,k1,k2,rf _,hx⟩)
  ·exact (show FW [.v (.int d),.v k,.v n,.v x,.v y] Y (fun bd=>(∀a ds,Y a=some ds->bd a=some ds)/\Xk Y) from ⟨d,k,_,_,_,rfl,hd,k1,k2,rf _,hx⟩)
  ·exact (show EF [.v (.int d),.v (.tuple (ks.map dN)),.v n,.v (dN bL),.v (dN bL)] Y (fun bd=>(∀a ds,Y a=some ds->bd a=some ds)/\Xk Y) from ⟨d,ks,n,_,_,rfl,hd,hk,np,fun bd z=>⟨z,hx⟩⟩)
  ·exact (show EF [.v (.int d),.v (.tuple (ks.map dN)),.v n,.v x,.v y] Y (fun bd=>(∀a ds,Y a=some ds->bd a=some ds)/\Xk Y) from ⟨d,ks,n,_,_,rfl,hd,hk,np,fun bd z=>⟨z,hx⟩⟩)
  ·exact (show Ap [.v (.int d),.v (.tuple (ks.map dN)),.v t,.v x,.v (dN bL)] Y (fun bd=>(∀a ds,Y a=some ds->bd a=some ds)/\Xk Y) from ⟨d,ks,t,s,_,_,rfl,hd,hk,yp,sp,os,bs.mono ⋯,ax,a0,.inl bx,fun bd z=>⟨z,hx⟩⟩)
  ·exact (show Ap [.v (.int d),.v (.tuple (ks.map dN)),.v t,.v (dN bL),.v y] Y (fun bd=>(∀a ds,Y a=some ds->bd a=some ds)/\Xk Y) from ⟨d,ks,t,s,_,_,rfl,hd,hk,yp,sp,os,bs.mono ⋯,a0,ay,.inr by_,fun bd z=>⟨z,hx⟩⟩)
  ·exact (show Ap [.v (.int d),.v (.tuple (ks.map dN)),.v t,.v x,.v y] Y (fun bd=>(∀a ds,Y a=some ds->bd a=some ds)/\Xk Y) from ⟨d,ks,t,s,_,_,rfl,hd,hk,yp,sp,os,bs.mono ⋯,ax,ay,.inl bx,fun bd z=>⟨z,hx⟩⟩)
  ·exact (show D5 [.v (.int d),.v k,.v t,.v (dN one)] Y (fun bd=>(∀a ds,Y a=some ds->bd a=some ds)/\Xk Y) from ⟨d,k,_,_,rfl,hd,k1,k2,rf _,hx⟩)
  ·exact (show D5 [.v (.int d),.v k,.v n,.v w] Y (fun bd=>(∀a ds,Y a=some ds->bd a=some ds)/\Xk Y) from ⟨d,k,_,_,rfl,hd,k1,k2,rf _,hx⟩)
  ·exact (show K7 [.v (.int d),.v (.tuple (ks.map dN)),.v n,.v w] Y (fun bd=>(∀a ds,Y a=some ds->bd a=some ds)/\Xk Y) from ⟨d,ks,n,_,rfl,hd,hk,np,fun bd z=>⟨z,hx⟩⟩)
  ·exact (show Ej [.v (.int d),.v (.tuple (ks.map dN)),.v t,.v w] Y (fun bd=>(∀a ds,Y a=some ds->bd a=some ds)/\Xk Y) from ⟨d,ks,t,w,rfl,hd,hk,yp,⟨w1,w2,w3⟩,fun bd z=>⟨z,hx⟩⟩)
  ·exact (show Ej [.v (.int d),.v (.tuple (ks.map dN)),.v G,.v w] Y (fun bd=>(∀a ds,Y a=some ds->bd a=some ds)/\Xk Y) from ⟨d,ks,G,w,rfl,hd,hk,gy,⟨w1,w2,w3⟩,fun bd z=>⟨z,hx⟩⟩)
  ·exact (show Kr [.v (.int d),.v (.tuple (ks.map dN)),.v G,.v (dN one)] Y (fun bd=>(∀a ds,Y a=some ds->bd a=some ds)/\Xk Y) from ⟨d,ks,G,one,_,rfl,hd,hk,gy,qf,b1.mono ⋯,DF,gt,gn,fun bd z=>⟨z,hx⟩⟩)
 ·rw[Ol]
  exact q _ (s03.trans (s4.trans (s5.trans (s6.trans (s7.trans s8)))).w)
theorem Vv(h:Fl ds U Qd):Mc ‹Qd› (aS ["","","","","","",""] ds) U:=by
 obtain⟨ns,rfl,h63,q⟩:=h
 unfold Mc
 rw[qF,EH]
 walk_at "rl"
 have hm:(-(2 ^ 62)<=max 2 (min 6 ((ns.length:Nat):Int))/\max 2 (min 6 ((ns.length:Nat):Int))<2 ^ 62):=by omega
 refine⟨hm,fun i ρ Y=>∃r1 r2 r3 r4 r5 r6,ρ=[some (.s ns),r1,r2,r3,r4,r5,r6],⟨_,_,_,_,_,_,rfl⟩,?_,?_⟩
 ·rintro i x ρ im hx ⟨r1,r2,r3,r4,r5,r6,rfl⟩
  obtain⟨rfl,hi⟩:=Qr hx
  walk_at "rl"
  refine⟨ns,_,rfl,∅,∅,fun a ac ha s1=>?_⟩
  walk_at "rl"
  refine⟨a,rfl,s1.1,fun d ad hd s2=>?_⟩
  walk_at "rl"
  refine⟨a,d,rfl,hd,s2.1,fun ks ap ho s3=>?_⟩
  walk_at "rl"
  rw[length_map]
  refine⟨a,_,rfl,by have:=ho.l1;omega,by have:=ho.l3;omega,s3.1,fun dd c t ce ht hdd hc s4=>?_⟩
  walk_at "rl"
  refine⟨a,d,ks,t,dd,c,rfl,hd,ho,ht,hdd,s4.1,fun ks' nb hk' hl' hb s5=>?_⟩
  rw[<- hl'] at ht
  obtain⟨x,yp,sp,ox,bx,sx⟩:=RO hd hk' ht hdd hc hb
  walk_at "rl"
  rw[EH]
  walk_at "rl"
  refine⟨⟨⋯,⋯⟩,fun j ρ Y=>∃r6,ρ=[some (.s ns),some (.v (.int (0+(i:Int)))),some (.m a),some (.v (.int d)),some (.v (.tuple (ks'.map dN))),some (.v t),r6]/\Bag Y a,⟨_,rfl,s5.1⟩,?_,?_⟩
  ·rintro j y ρ lf hy ⟨r6,rfl,hb6⟩
   walk_at "rl"
   refine⟨a,d,ks',t,dd,c,x,rfl,hd,hk',ht,hdd,yp,sp,ox,bx,sx,hb6,fun kw s7=>?_⟩
   walk_at "rl"
   exact⟨_,rfl,s7.1⟩
  ·rintro ρ lf ⟨r6,rfl,hb6⟩
   walk_at "rl"
   refine⟨d,ks',t,x,rfl,hd,hk',yp.1,yp.2,sp,fun kw k7=>?_⟩
   walk_at "rl"
   refine⟨d,ks',false,t,x,rfl,hd,yp.1,sp,fun jp k8=>?_⟩
   walk_at "rl"
   try simp only[decide_true,Bool.xor_true,true_xor,Bool.not_true,false_eq_true,↓reduceIte]
   exact⟨_,_,_,_,_,_,rfl⟩
 ·rintro ρ im ⟨r1,r2,r3,r4,r5,r6,rfl⟩
  exact q _
end
end L2.DL
namespace K28
open PySem L2 L2.DL
local macro_rules|`(tactic| walk_at "cl")=>`(tactic| (intro _ _ h;first|exact h|exact cl1 h|exact cl2 nofun h|exact cl3 nofun h|exact AN (lF rfl KZ) _ _ h|exact AN (lF rfl (lF rfl KZ)) _ _ h|exact AN (lF rfl (lF rfl (lF rfl KZ))) _ _ h|exact AN (lF rfl (lF rfl (lF rfl (lF rfl KZ)))) _ _ h|exact AN (lF rfl (lF rfl (lF rfl (lF rfl (lF rfl KZ))))) _ _ h|exact AN (lF rfl (lF rfl (lF rfl (lF rfl (lF rfl (lF rfl KZ)))))) _ _ h|exact AN (lF rfl (lF rfl (lF rfl (lF rfl (lF rfl (lF rfl (lF rfl KZ))))))) _ _ h|exact AN KZ _ _ h|cases h))
set_option genInjectivity false in
structure Adr where
 u4:Addr
 yF:FuncData
 iz:Addr
 l6:FuncData
 qS:Addr
 vD:FuncData
 iA:Addr
 nq:FuncData
 zS:Addr
 D6:FuncData
 HL:Addr
 M3:FuncData
 DC:Addr
 Ik:FuncData
 va:Addr
 yu:FuncData
 xy:Addr
 BE:FuncData
 je:Addr
 oA:FuncData
 uP:Addr
 yO:FuncData
 hR:Addr
 kR:FuncData
 dq:Addr
 eh:FuncData
 qT:Addr
 wH:FuncData
 uX:Addr
 yb:FuncData
 gO:Addr
 jh:FuncData
 xx:Addr
 A8:FuncData
 uk:Addr
 yi:FuncData
 vb:Addr
 yg:FuncData
 uN:Addr
 yw:FuncData
 hW:Addr
 kr:FuncData
 mY:Addr
 qD:FuncData
 ku:Addr
 pA:FuncData
 jO:Addr
 mX:FuncData
 zm:Addr
 FK:FuncData
 ib:Addr
 jq:FuncData
 pN:Addr
 tD:FuncData
 lz:Addr
 p6:FuncData
 qO:Addr
 wR:FuncData
 jG:Addr
 mf:FuncData
 uo:Addr
 yG:FuncData
 rk:Addr
 wC:FuncData
 jj:Addr
 oH:FuncData
 nM:Addr
 rS:FuncData
 uu:Addr
 yt:FuncData
 iE:Addr
 ng:FuncData
 qU:Addr
 xg:FuncData
 pD:Addr
 uQ:FuncData
 pJ:Addr
 uC:FuncData
 ji:Addr
 oG:FuncData
 rC:Addr
 wQ:FuncData
 rm:Addr
 wZ:FuncData
 nR:Addr
 rW:FuncData
 pI:Addr
 uT:FuncData
 tW:Addr
 yX:FuncData
 dS:Addr
 eU:FuncData
 pC:Addr
 um:FuncData
 iB:Addr
 mL:FuncData
 iM:Addr
 nh:FuncData
 iD:Addr
 nc:FuncData
 qX:Addr
 wg:FuncData
 uZ:Addr
 yT:FuncData
 fI:Addr
 gE:FuncData
 dy:Addr
 d8:FuncData
 iN:Addr
 mR:FuncData
 kO:Addr
 qC:FuncData
 kB:Addr
 qi:FuncData
 da:Addr
 dH:FuncData
 iu:Addr
 my:FuncData
 gD:Addr
 jH:FuncData
 jd:Addr
 o5:FuncData
 kc:Addr
 qI:FuncData
 gz:Addr
 gu:FuncData
 Oo:Addr
 Q7:FuncData
 Gf:Tok
 FT:Tok
 FZ:Tok
 EN:Tok
 GC:Tok
 GJ:Tok
 OM:Addr
 UO:Addr
 cu:Addr
 d6:Addr
 aE:Addr
 cT:Addr
 dW:Addr
 fE:Addr
 aG:Addr
 aK:Addr
 aL:Addr
 fM:Addr
 dY:Addr
 cR:Addr
 d7:Addr
 aH:Addr
 dr:Addr
 eQ:Addr
structure Txt(K:PySem.W.Frag)(mg:Str->Option Value)(t:Adr):Prop where
 NC:Fun K "is_whole" "is_whole" nz t.u4 t.yF
 pZ:mg "is_whole"=some (.ref t.u4)
 qK:keepIn K (.ref t.u4)=true
 p5:Binds K t.yF ["thing"] []
 Ca:Fun K "common_divisor" "common_divisor" eu t.iz t.l6
 sU:mg "common_divisor"=some (.ref t.iz)
 sv:keepIn K (.ref t.iz)=true
 tm:Binds K t.l6 ["a","b"] []
 Lv:Fun K "is_number" "is_number" jN t.qS t.vD
 vR:mg "is_number"=some (.ref t.qS)
 wb:keepIn K (.ref t.qS)=true
 w4:Binds K t.vD ["thing"] []
 A6:Fun K "divisor_of_all" "divisor_of_all" eM t.iA t.nq
 sX:mg "divisor_of_all"=some (.ref t.iA)
 sE:keepIn K (.ref t.iA)=true
 sC:Binds K t.nq ["a","b","c"] []
 RF:Fun K "number" "number" sJ t.zS t.D6
 AR:mg "number"=some (.ref t.zS)
 AD:keepIn K (.ref t.zS)=true
 zY:Binds K t.D6 ["a","b","c"] []
 Vm:Fun K "plus" "plus" BB t.HL t.M3
 MI:mg "plus"=some (.ref t.HL)
 Mz:keepIn K (.ref t.HL)=true
 Nc:Binds K t.M3 ["x","y"] []
 Su:Fun K "times" "times" xA t.DC t.Ik
 Sl:mg "times"=some (.ref t.DC)
 So:keepIn K (.ref t.DC)=true
 Ts:Binds K t.Ik ["d","x","y"] []
 MA:Fun K "contrary" "contrary" mn t.va t.yu
 yC:mg "contrary"=some (.ref t.va)
 yS:keepIn K (.ref t.va)=true
 yR:Binds K t.yu ["d","x"] []
 Pf:Fun K "sign_of" "sign_of" pQ t.xy t.BE
 PH:mg "sign_of"=some (.ref t.xy)
 PJ:keepIn K (.ref t.xy)=true
 OT:Binds K t.BE ["d","x"] []
 CZ:Fun K "sign_of_parts" "sign_of_parts" fu t.je t.oA
 vj:mg "sign_of_parts"=some (.ref t.je)
 vv:keepIn K (.ref t.je)=true
 vp:Binds K t.oA ["d","a","b"] []
 Mg:Fun K "is_above" "is_above" nj t.uP t.yO
 tU:mg "is_above"=some (.ref t.uP)
 tZ:keepIn K (.ref t.uP)=true
 ur:Binds K t.yO ["d","x","y"] []
 zp:Fun K "is_above_nought" "is_above_nought" dX t.hR t.kR
 ka:mg "is_above_nought"=some (.ref t.hR)
 lr:keepIn K (.ref t.hR)=true
 kW:Binds K t.kR ["d","thing"] []
 kP:Fun K "must_be_above_nought" "must_be_above_nought" cM t.dq t.eh
 lh:mg "must_be_above_nought"=some (.ref t.dq)
 j8:keepIn K (.ref t.dq)=true
 kg:Binds K t.eh ["d","thing"] []
 KW:Fun K "bounds_of" "bounds_of" jX t.qT t.wH
 Lp:mg "bounds_of"=some (.ref t.qT)
 LR:keepIn K (.ref t.qT)=true
 KA:Binds K t.wH ["tile"] []
 M1:Fun K "is_kinds" "is_kinds" lX t.uX t.yb
 Fu:mg "is_kinds"=some (.ref t.uX)
 EG:keepIn K (.ref t.uX)=true
 Ed:Binds K t.yb ["d","thing"] []
 vh:Fun K "must_be_kinds" "must_be_kinds" fv t.gO t.jh
 cq:mg "must_be_kinds"=some (.ref t.gO)
 ck:keepIn K (.ref t.gO)=true
 cm:Binds K t.jh ["d","thing"] []
 Pt:Fun K "is_plan" "is_plan" pW t.xx t.A8
 Hq:mg "is_plan"=some (.ref t.xx)
 Hw:keepIn K (.ref t.xx)=true
 G2:Binds K t.A8 ["thing","many"] []
 ME:Fun K "has_form" "has_form" mP t.uk t.yi
 Mi:mg "has_form"=some (.ref t.uk)
 M0:keepIn K (.ref t.uk)=true
 Nn:Binds K t.yi ["thing","many"] []
 Md:Fun K "is_count" "is_count" nF t.vb t.yg
 FC:mg "is_count"=some (.ref t.vb)
 DQ:keepIn K (.ref t.vb)=true
 Ei:Binds K t.yg ["thing"] []
 NH:Fun K "parts_of" "parts_of" ml t.uN t.yw
 yA:mg "parts_of"=some (.ref t.uN)
 ya:keepIn K (.ref t.uN)=true
 yP:Binds K t.yw ["plan"] []
 xa:Fun K "must_be_plan" "must_be_plan" gj t.hW t.kr
 dR:mg "must_be_plan"=some (.ref t.hW)
 dP:keepIn K (.ref t.hW)=true
 dU:Binds K t.kr ["thing","many"] []
 yY:Fun K "shape_of" "shape_of" lY t.mY t.qD
 ui:mg "shape_of"=some (.ref t.mY)
 uM:keepIn K (.ref t.mY)=true
 u6:Binds K t.qD ["d","kinds","plan"] []
 zA:Fun K "mate_shape" "mate_shape" ir t.ku t.pA
 AL:mg "mate_shape"=some (.ref t.ku)
 AA:keepIn K (.ref t.ku)=true
 zD:Binds K t.pA ["d","kinds","plan"] []
 O9:Fun K "made_of" "made_of" pU t.jO t.mX
 A3:mg "made_of"=some (.ref t.jO)
 Bo:keepIn K (.ref t.jO)=true
 A0:Binds K t.mX ["d","shapes","plan"] []
 Rn:Fun K "sum_of" "sum_of" tf t.zm t.FK
 Ly:mg "sum_of"=some (.ref t.zm)
 K0:keepIn K (.ref t.zm)=true
 J2:Binds K t.FK ["shapes"] []
 MH:Fun K "tiles_in" "tiles_in" mi t.ib t.jq
 FF:mg "tiles_in"=some (.ref t.ib)
 Ft:keepIn K (.ref t.ib)=true
 DR:Binds K t.jq ["plan"] []
 AZ:Fun K "tile_at" "tile_at" pV t.pN t.tD
 mZ:mg "tile_at"=some (.ref t.pN)
 mj:keepIn K (.ref t.pN)=true
 mw:Binds K t.tD ["d","kinds","plan","x","y"] []
 Fb:Fun K "must_be_spot" "must_be_spot" fZ t.lz t.p6
 FU:mg "must_be_spot"=some (.ref t.lz)
 EI:keepIn K (.ref t.lz)=true
 E7:Binds K t.p6 ["d","shape","x","y"] []
 JV:Fun K "begins_at" "begins_at" jR t.qO t.wR
 Ka:mg "begins_at"=some (.ref t.qO)
 Lw:keepIn K (.ref t.qO)=true
 Li:Binds K t.wR ["d","box","x","y"] []
 uq:Fun K "laid_out" "laid_out" nA t.jG t.mf
 nD:mg "laid_out"=some (.ref t.jG)
 mm:keepIn K (.ref t.jG)=true
 l7:Binds K t.mf ["d","kinds","plan","width"] []
 MN:Fun K "_law_bag" "_law_bag" nB t.uo t.yG
 NK:mg "_law_bag"=some (.ref t.uo)
 NG:keepIn K (.ref t.uo)=true
 Ml:Binds K t.yG ["_law_script","_law_at"] []
 Km:Fun K "_law_take" "_law_take" jL t.rk t.wC
 aP:mg "_law_take"=some (.ref t.rk)
 aQ:keepIn K (.ref t.rk)=true
 aO:Binds K t.wC ["_law_bag_here","_law_many"] []
 Dm:Fun K "_law_is_whole" "_law_is_whole" fq t.jj t.oH
 oQ:mg "_law_is_whole"=some (.ref t.jj)
 ot:keepIn K (.ref t.jj)=true
 o6:Binds K t.oH ["_law_thing"] []
 Gx:Fun K "_law_shared" "_law_shared" gW t.nM t.rS
 nP:mg "_law_shared"=some (.ref t.nM)
 nS:keepIn K (.ref t.nM)=true
 nQ:Binds K t.rS ["_law_one","_law_other"] []
 MS:Fun K "_law_low" "_law_low" l4 t.uu t.yt
 gA:mg "_law_low"=some (.ref t.uu)
 gF:keepIn K (.ref t.uu)=true
 gw:Binds K t.yt ["_law_a","_law_b","_law_c"] []
 B6:Fun K "_law_is_number" "_law_is_number" eJ t.iE t.ng
 BU:mg "_law_is_number"=some (.ref t.iE)
 BI:keepIn K (.ref t.iE)=true
 By:Binds K t.ng ["_law_thing"] []
 JQ:Fun K "_law_plus" "_law_plus" jV t.qU t.xg
 wJ:mg "_law_plus"=some (.ref t.qU)
 vV:keepIn K (.ref t.qU)=true
 vU:Binds K t.xg ["_law_x","_law_y"] []
 Jh:Fun K "_law_minus" "_law_minus" iq t.pD t.uQ
 pK:mg "_law_minus"=some (.ref t.pD)
 pG:keepIn K (.ref t.pD)=true
 pF:Binds K t.uQ ["_law_x"] []
 Ii:Fun K "_law_times" "_law_times" iJ t.pJ t.uC
 uG:mg "_law_times"=some (.ref t.pJ)
 ue:keepIn K (.ref t.pJ)=true
 uV:Binds K t.uC ["_law_d","_law_x","_law_y"] []
 Dn:Fun K "_law_contrary" "_law_contrary" fj t.ji t.oG
 jg:mg "_law_contrary"=some (.ref t.ji)
 jl:keepIn K (.ref t.ji)=true
 jk:Binds K t.oG ["_law_d","_law_x"] []
 KP:Fun K "_law_sign" "_law_sign" jS t.rC t.wQ
 CA:mg "_law_sign"=some (.ref t.rC)
 CK:keepIn K (.ref t.rC)=true
 CJ:Binds K t.wQ ["_law_d","_law_x"] []
 KN:Fun K "_law_root" "_law_root" jZ t.rm t.wZ
 Ko:mg "_law_root"=some (.ref t.rm)
 J6:keepIn K (.ref t.rm)=true
 LF:Binds K t.wZ ["_law_bag_here"] []
 Gp:Fun K "_law_number" "_law_number" gU t.nR t.rW
 Gk:mg "_law_number"=some (.ref t.nR)
 GW:keepIn K (.ref t.nR)=true
 Gh:Binds K t.rW ["_law_bag_here"] []
 Jw:Fun K "_law_above" "_law_above" iw t.pI t.uT
 u9:mg "_law_above"=some (.ref t.pI)
 ub:keepIn K (.ref t.pI)=true
 tY:Binds K t.uT ["_law_bag_here","_law_d"] []
 MG:Fun K "_law_odd" "_law_odd" ny t.tW t.yX
 yE:mg "_law_odd"=some (.ref t.tW)
 yh:keepIn K (.ref t.tW)=true
 yI:Binds K t.yX ["_law_bag_here"] []
 hZ:Fun K "_law_refusal" "_law_refusal" gc t.dS t.eU
 E2:mg "_law_refusal"=some (.ref t.dS)
 Fy:keepIn K (.ref t.dS)=true
 D9:Binds K t.eU ["_law_deed"] []
 Jn:Fun K "_law_kinds" "_law_kinds" iH t.pC t.um
 Ij:mg "_law_kinds"=some (.ref t.pC)
 Ju:keepIn K (.ref t.pC)=true
 Jo:Binds K t.um ["_law_bag_here","_law_d"] []
 B5:Fun K "_law_bad_above" "_law_bad_above" eE t.iB t.mL
 sV:mg "_law_bad_above"=some (.ref t.iB)
 sf:keepIn K (.ref t.iB)=true
 su:Binds K t.mL ["_law_bag_here","_law_d"] []
 Bf:Fun K "_law_bad_kinds" "_law_bad_kinds" eC t.iM t.nh
 Bw:mg "_law_bad_kinds"=some (.ref t.iM)
 Bt:keepIn K (.ref t.iM)=true
 B7:Binds K t.nh ["_law_bag_here","_law_d","_law_kinds_here"] []
 BA:Fun K "_law_grid_size" "_law_grid_size" eL t.iD t.nc
 sA:mg "_law_grid_size"=some (.ref t.iD)
 sD:keepIn K (.ref t.iD)=true
 sN:Binds K t.nc ["_law_bag_here"] []
 J1:Fun K "_law_plan" "_law_plan" jP t.qX t.wg
 LY:mg "_law_plan"=some (.ref t.qX)
 Lx:keepIn K (.ref t.qX)=true
 Kh:Binds K t.wg ["_law_bag_here","_law_many"] []
 Nz:Fun K "_law_sum" "_law_sum" lR t.uZ t.yT
 DM:mg "_law_sum"=some (.ref t.uZ)
 Fj:keepIn K (.ref t.uZ)=true
 DX:Binds K t.yT ["_law_some"] []
 IT:Fun K "_law_shape" "_law_shape" iC t.fI t.gE
 kE:mg "_law_shape"=some (.ref t.fI)
 kh:keepIn K (.ref t.fI)=true
 k6:Binds K t.gE ["_law_d","_law_kinds_here","_law_plan_here"] []
 Dh:Fun K "_law_plans_in" "_law_plans_in" fm t.dy t.d8
 o9:mg "_law_plans_in"=some (.ref t.dy)
 oJ:keepIn K (.ref t.dy)=true
 oS:Binds K t.d8 ["_law_thing","_law_many","_law_deep"] []
 Bu:Fun K "_law_is_a_plan" "_law_is_a_plan" eo t.iN t.mR
 Ce:mg "_law_is_a_plan"=some (.ref t.iN)
 BZ:keepIn K (.ref t.iN)=true
 Cf:Binds K t.mR ["_law_thing","_law_many"] []
 ED:Fun K "_law_part_of" "_law_part_of" gr t.kO t.qC
 EJ:mg "_law_part_of"=some (.ref t.kO)
 EZ:keepIn K (.ref t.kO)=true
 Fh:Binds K t.qC ["_law_bag_here","_law_d","_law_x"] []
 FP:Fun K "_law_swapped" "_law_swapped" gh t.kB t.qi
 Fd:mg "_law_swapped"=some (.ref t.kB)
 Eh:keepIn K (.ref t.kB)=true
 Fn:Binds K t.qi ["_law_row","_law_at","_law_thing"] []
 BW:Fun K "_law_bent_plan" "_law_bent_plan" eG t.da t.dH
 mG:mg "_law_bent_plan"=some (.ref t.da)
 mO:keepIn K (.ref t.da)=true
 mB:Binds K t.dH ["_law_bag_here","_law_plan_here","_law_many"] []
 Bc:Fun K "_law_none_plan" "_law_none_plan" eI t.iu t.my
 BC:mg "_law_none_plan"=some (.ref t.iu)
 Be:keepIn K (.ref t.iu)=true
 Cg:Binds K t.my ["_law_bag_here","_law_plan_here","_law_many"] []
 ye:Fun K "_law_few_figures" "_law_few_figures" dG t.gD t.jH
 yr:mg "_law_few_figures"=some (.ref t.gD)
 yx:keepIn K (.ref t.gD)=true
 yv:Binds K t.jH ["_law_bag_here","_law_d","_law_kinds_here","_law_plan_here"] []
 Di:Fun K "_law_bad_spot" "_law_bad_spot" fk t.jd t.o5
 vo:mg "_law_bad_spot"=some (.ref t.jd)
 vq:keepIn K (.ref t.jd)=true
 vm:Binds K t.o5 ["_law_bag_here","_law_d","_law_end"] []
 Fz:Fun K "_law_bad_odd" "_law_bad_odd" gk t.kc t.qI
 FY:mg "_law_bad_odd"=some (.ref t.kc)
 En:keepIn K (.ref t.kc)=true
 ES:Binds K t.qI ["_law_bag_here"] []
 yn:Fun K "_law_are_refused" "_law_are_refused" dF t.gz t.gu
 yD:mg "_law_are_refused"=some (.ref t.gz)
 yL:keepIn K (.ref t.gz)=true
 yf:Binds K t.gu ["_law_bag_here","_law_d","_law_kinds_here","_law_plan_here"] []
 WG:Fun K "law" "law" xT t.Oo t.Q7
 Y1:mg "law"=some (.ref t.Oo)
 Y2:keepIn K (.ref t.Oo)=true
 Y3:Binds K t.Q7 ["_law_script"] []
 ao:mg "isinstance"=none
 xZ:mg "int"=none
 R3:mg "bool"=none
 K6:mg "abs"=none
 nL:mg "tuple"=none
 dD:mg "len"=none
 N0:mg "all"=none
 BY:mg "list"=none
 QF:mg "sum"=none
 uF:mg "range"=none
 lj:mg "ValueError"=none
 PY:mg "min"=none
 TV:mg "max"=none
 Jd:mg "MOST_KINDS"=some (.int 3 t.Gf)
 GO:mg "MOST_WITHIN"=some (.int 12 t.FT)
 IE:mg "MOST_PLANS"=some (.int 60 t.FZ)
 Gz:mg "LEAST_PARTS"=some (.int 2 t.EN)
 Ji:mg "MOST_PARTS"=some (.int 8 t.GC)
 Iy:mg "MOST_TILES"=some (.int 60 t.GJ)
 DJ:UW K mg "NOUGHT" t.OM 0 0 1
 W7:UW K mg "ONE" t.UO 1 0 1
 kS:mg "FloorError"=some (.ref t.cu)
 xb:mg "NoRoot"=some (.ref t.d6)
 nk:mg "NoNumber"=some (.ref t.aE)
 qu:mg "NoLaying"=some (.ref t.cT)
 wy:mg "NoTile"=some (.ref t.dW)
 zU:mg "NoFit"=some (.ref t.fE)
 pM:mg "NoKinds"=some (.ref t.aG)
 sY:mg "NoPlan"=some (.ref t.aK)
 sO:mg "NoSpot"=some (.ref t.aL)
 Ad:mg "NoNet"=some (.ref t.fM)
 vM:mg "NoText"=some (.ref t.dY)
 qw:mg "NoSaying"=some (.ref t.cR)
 vG:mg "NoName"=some (.ref t.d7)
 pO:mg "TooMany"=some (.ref t.aH)
 yq:excIn K (t.aE) bmV "ValueError.__new__"=true
 zh:exmOne K (.ref t.aE) (.ref t.cu)=some true
 ly:kitOne K (.ref t.aE) (.ref t.d6)=some false
 i4:kitOne K (.ref t.aE) (.ref t.aE)=some true
 iZ:kitOne K (.ref t.aE) (.ref t.cT)=some false
 kT:kitOne K (.ref t.aE) (.ref t.dW)=some false
 nr:kitOne K (.ref t.aE) (.ref t.fE)=some false
 ju:kitOne K (.ref t.aE) (.ref t.aG)=some false
 kH:kitOne K (.ref t.aE) (.ref t.aK)=some false
 kI:kitOne K (.ref t.aE) (.ref t.aL)=some false
 mM:kitOne K (.ref t.aE) (.ref t.fM)=some false
 ky:kitOne K (.ref t.aE) (.ref t.dY)=some false
 iU:kitOne K (.ref t.aE) (.ref t.cR)=some false
 kU:kitOne K (.ref t.aE) (.ref t.d7)=some false
 jr:kitOne K (.ref t.aE) (.ref t.aH)=some false
 uO:kitOne K (.ref t.aE) (.type "ValueError")=some true
 Br:excIn K (t.aG) bmV "ValueError.__new__"=true
 BH:exmOne K (.ref t.aG) (.ref t.cu)=some true
 lT:kitOne K (.ref t.aG) (.ref t.d6)=some false
 jC:kitOne K (.ref t.aG) (.ref t.aE)=some false
 jo:kitOne K (.ref t.aG) (.ref t.cT)=some false
 l5:kitOne K (.ref t.aG) (.ref t.dW)=some false
 oU:kitOne K (.ref t.aG) (.ref t.fE)=some false
 k9:kitOne K (.ref t.aG) (.ref t.aG)=some true
 mQ:kitOne K (.ref t.aG) (.ref t.aK)=some false
 lQ:kitOne K (.ref t.aG) (.ref t.aL)=some false
 oY:kitOne K (.ref t.aG) (.ref t.fM)=some false
 mT:kitOne K (.ref t.aG) (.ref t.dY)=some false
 jz:kitOne K (.ref t.aG) (.ref t.cR)=some false
 mV:kitOne K (.ref t.aG) (.ref t.d7)=some false
 ko:kitOne K (.ref t.aG) (.ref t.aH)=some false
 vX:kitOne K (.ref t.aG) (.type "ValueError")=some true
 Ef:excIn K (t.aK) bmV "ValueError.__new__"=true
 Eu:exmOne K (.ref t.aK) (.ref t.cu)=some true
 o4:kitOne K (.ref t.aK) (.ref t.d6)=some false
 kJ:kitOne K (.ref t.aK) (.ref t.aE)=some false
 lE:kitOne K (.ref t.aK) (.ref t.cT)=some false
 pd:kitOne K (.ref t.aK) (.ref t.dW)=some false
 qc:kitOne K (.ref t.aK) (.ref t.fE)=some false
 mE:kitOne K (.ref t.aK) (.ref t.aG)=some false
 pb:kitOne K (.ref t.aK) (.ref t.aK)=some true
 oN:kitOne K (.ref t.aK) (.ref t.aL)=some false
 p7:kitOne K (.ref t.aK) (.ref t.fM)=some false
 oj:kitOne K (.ref t.aK) (.ref t.dY)=some false
 lq:kitOne K (.ref t.aK) (.ref t.cR)=some false
 o3:kitOne K (.ref t.aK) (.ref t.d7)=some false
 lV:kitOne K (.ref t.aK) (.ref t.aH)=some false
 yd:kitOne K (.ref t.aK) (.type "ValueError")=some true
 E8:excIn K (t.aL) bmV "ValueError.__new__"=true
 D4:exmOne K (.ref t.aL) (.ref t.cu)=some true
 oK:kitOne K (.ref t.aL) (.ref t.d6)=some false
 kY:kitOne K (.ref t.aL) (.ref t.aE)=some false
 kC:kitOne K (.ref t.aL) (.ref t.cT)=some false
 oq:kitOne K (.ref t.aL) (.ref t.dW)=some false
 qG:kitOne K (.ref t.aL) (.ref t.fE)=some false
 ma:kitOne K (.ref t.aL) (.ref t.aG)=some false
 oB:kitOne K (.ref t.aL) (.ref t.aK)=some false
 oW:kitOne K (.ref t.aL) (.ref t.aL)=some true
 ql:kitOne K (.ref t.aL) (.ref t.fM)=some false
 oE:kitOne K (.ref t.aL) (.ref t.dY)=some false
 lC:kitOne K (.ref t.aL) (.ref t.cR)=some false
 ou:kitOne K (.ref t.aL) (.ref t.d7)=some false
 md:kitOne K (.ref t.aL) (.ref t.aH)=some false
 ym:kitOne K (.ref t.aL) (.type "ValueError")=some true
 BM:excIn K (t.aH) bmV "ValueError.__new__"=true
 Bz:exmOne K (.ref t.aH) (.ref t.cu)=some true
 lW:kitOne K (.ref t.aH) (.ref t.d6)=some false
 jt:kitOne K (.ref t.aH) (.ref t.aE)=some false
 jA:kitOne K (.ref t.aH) (.ref t.cT)=some false
 mS:kitOne K (.ref t.aH) (.ref t.dW)=some false
 oI:kitOne K (.ref t.aH) (.ref t.fE)=some false
 ll:kitOne K (.ref t.aH) (.ref t.aG)=some false
 mv:kitOne K (.ref t.aH) (.ref t.aK)=some false
 lS:kitOne K (.ref t.aH) (.ref t.aL)=some false
 oP:kitOne K (.ref t.aH) (.ref t.fM)=some false
 mz:kitOne K (.ref t.aH) (.ref t.dY)=some false
 jv:kitOne K (.ref t.aH) (.ref t.cR)=some false
 mC:kitOne K (.ref t.aH) (.ref t.d7)=some false
 kd:kitOne K (.ref t.aH) (.ref t.aH)=some true
 vH:kitOne K (.ref t.aH) (.type "ValueError")=some true
 dk:zf K t.aE
 d5:zf K t.aG
 fK:zf K t.aK
 fF:zf K t.aL
 d4:zf K t.aH
 ba:Xo K mg t.dr t.eQ "_law_are_refused"
 aX:t.gu.code = .ref t.dr
structure EQ where
 P:Program
 w:World
 K:PySem.W.Frag
 mg:Str->Option Value
 base:Heap
 t:Adr
noncomputable abbrev TX(e:EQ):Prop:=Txt e.K e.mg e.t
noncomputable abbrev rA(e:EQ):Prop:=bO e.P e.w e.K e.mg e.base CX0 1 e.t.u4 e.t.yF ["thing"] (spD e.K ix)
noncomputable abbrev qY(e:EQ):Prop:=bO e.P e.w e.K e.mg e.base CX0 1 e.t.iz e.t.l6 ["a","b"] (spD e.K wM)
noncomputable abbrev uK(e:EQ):Prop:=bO e.P e.w e.K e.mg e.base CX0 3 e.t.qS e.t.vD ["thing"] (spD e.K tR)
noncomputable abbrev kq(e:EQ):Prop:=bO e.P e.w e.K e.mg e.base CX0 2 e.t.iA e.t.nq ["a","b","c"] (spD e.K El)
noncomputable abbrev pT(e:EQ):Prop:=bO e.P e.w e.K e.mg e.base CX0 3 e.t.zS e.t.D6 ["a","b","c"] (spD e.K dE)
noncomputable abbrev Jj(e:EQ):Prop:=bO e.P e.w e.K e.mg e.base CX0 4 e.t.HL e.t.M3 ["x","y"] (spD e.K qd)
noncomputable abbrev FV(e:EQ):Prop:=bO e.P e.w e.K e.mg e.base CX0 4 e.t.DC e.t.Ik ["d","x","y"] (spD e.K pE)
noncomputable abbrev vW(e:EQ):Prop:=bO e.P e.w e.K e.mg e.base CX0 4 e.t.va e.t.yu ["d","x"] (spD e.K dI)
noncomputable abbrev Ee(e:EQ):Prop:=bO e.P e.w e.K e.mg e.base CX0 2 e.t.xy e.t.BE ["d","x"] (spD e.K vO)
noncomputable abbrev mh(e:EQ):Prop:=bO e.P e.w e.K e.mg e.base CX0 1 e.t.je e.t.oA ["d","a","b"] (spD e.K AW)
noncomputable abbrev Ci(e:EQ):Prop:=bO e.P e.w e.K e.mg e.base CX0 2 e.t.uP e.t.yO ["d","x","y"] (spD e.K vd)
noncomputable abbrev gL(e:EQ):Prop:=bO e.P e.w e.K e.mg e.base CX0 4 e.t.hR e.t.kR ["d","thing"] (spD e.K sS)
noncomputable abbrev jT(e:EQ):Prop:=bO e.P e.w e.K e.mg e.base CX0 5 e.t.dq e.t.eh ["d","thing"] (spD e.K qQ)
noncomputable abbrev Ax(e:EQ):Prop:=bO e.P e.w e.K e.mg e.base CX0 5 e.t.qT e.t.wH ["tile"] (spD e.K zy)
noncomputable abbrev wD(e:EQ):Prop:=bO e.P e.w e.K e.mg e.base CX0 5 e.t.uX e.t.yb ["d","thing"] (spD e.K wN)
noncomputable abbrev cN(e:EQ):Prop:=bO e.P e.w e.K e.mg e.base CX0 6 e.t.gO e.t.jh ["d","thing"] (spD e.K dQ)
noncomputable abbrev zg(e:EQ):Prop:=bO e.P e.w e.K e.mg e.base CX0 4 e.t.xx e.t.A8 ["thing","many"] (spD e.K tJ)
noncomputable abbrev Cm(e:EQ):Prop:=bO e.P e.w e.K e.mg e.base CX0 3 e.t.uk e.t.yi ["thing","many"] (spD e.K IA)
noncomputable abbrev Cp(e:EQ):Prop:=bO e.P e.w e.K e.mg e.base CX0 2 e.t.vb e.t.yg ["thing"] (spD e.K zJ)
noncomputable abbrev jK(e:EQ):Prop:=bO e.P e.w e.K e.mg e.base CX0 1 e.t.uN e.t.yw ["plan"] (spD e.K xC)
noncomputable abbrev gP(e:EQ):Prop:=bO e.P e.w e.K e.mg e.base CX0 5 e.t.hW e.t.kr ["thing","many"] (spD e.K jD)
noncomputable abbrev CO(e:EQ):Prop:=bO e.P e.w e.K e.mg e.base CX0 20 e.t.mY e.t.qD ["d","kinds","plan"] (spD e.K xq)
noncomputable abbrev DZ(e:EQ):Prop:=bO e.P e.w e.K e.mg e.base CX0 19 e.t.jO e.t.mX ["d","shapes","plan"] (spD e.K (mJ 13))
noncomputable abbrev B4(e:EQ):Prop:=bO e.P e.w e.K e.mg e.base CX0 5 e.t.zm e.t.FK ["shapes"] (spD e.K Au)
noncomputable abbrev Kj(e:EQ):Prop:=bO e.P e.w e.K e.mg e.base CX0 15 e.t.ib e.t.jq ["plan"] (spD e.K (kv 13))
noncomputable abbrev AV(e:EQ):Prop:=bO e.P e.w e.K e.mg e.base CX0 6 e.t.qO e.t.wR ["d","box","x","y"] (spD e.K Az)
noncomputable abbrev CI(e:EQ):Prop:=bO e.P e.w e.K e.mg e.base CX0 1 e.t.uo e.t.yG ["_law_script","_law_at"] (spD e.K NX)
noncomputable abbrev cj(e:EQ):Prop:=bO e.P e.w e.K e.mg e.base CX0 1 e.t.rk e.t.wC ["_law_bag_here","_law_many"] (spD e.K bX)
noncomputable abbrev iy(e:EQ):Prop:=bO e.P e.w e.K e.mg e.base CX0 1 e.t.jj e.t.oH ["_law_thing"] (spD e.K ix)
noncomputable abbrev qp(e:EQ):Prop:=bO e.P e.w e.K e.mg e.base CX0 1 e.t.nM e.t.rS ["_law_one","_law_other"] (spD e.K wM)
noncomputable abbrev dO(e:EQ):Prop:=bO e.P e.w e.K e.mg e.base CX0 2 e.t.uu e.t.yt ["_law_a","_law_b","_law_c"] (spD e.K dE)
noncomputable abbrev rH(e:EQ):Prop:=bO e.P e.w e.K e.mg e.base CX0 2 e.t.iE e.t.ng ["_law_thing"] (spD e.K tR)
noncomputable abbrev uj(e:EQ):Prop:=bO e.P e.w e.K e.mg e.base CX0 3 e.t.qU e.t.xg ["_law_x","_law_y"] (spD e.K qd)
noncomputable abbrev jc(e:EQ):Prop:=bO e.P e.w e.K e.mg e.base CX0 1 e.t.pD e.t.uQ ["_law_x"] (spD e.K uU)
noncomputable abbrev ja(e:EQ):Prop:=bO e.P e.w e.K e.mg e.base CX0 3 e.t.pJ e.t.uC ["_law_d","_law_x","_law_y"] (spD e.K pE)
noncomputable abbrev iI(e:EQ):Prop:=bO e.P e.w e.K e.mg e.base CX0 3 e.t.ji e.t.oG ["_law_d","_law_x"] (spD e.K dI)
noncomputable abbrev uI(e:EQ):Prop:=bO e.P e.w e.K e.mg e.base CX0 1 e.t.rC e.t.wQ ["_law_d","_law_x"] (spD e.K vO)
noncomputable abbrev AJ(e:EQ):Prop:=bO e.P e.w e.K e.mg e.base CX0 2 e.t.rm e.t.wZ ["_law_bag_here"] (spD e.K Dz)
noncomputable abbrev wA(e:EQ):Prop:=bO e.P e.w e.K e.mg e.base CX0 3 e.t.nR e.t.rW ["_law_bag_here"] (spD e.K xk)
noncomputable abbrev rR(e:EQ):Prop:=bO e.P e.w e.K e.mg e.base CX0 4 e.t.pI e.t.uT ["_law_bag_here","_law_d"] (spD e.K sW)
noncomputable abbrev nX(e:EQ):Prop:=bO e.P e.w e.K e.mg e.base CX0 2 e.t.tW e.t.yX ["_law_bag_here"] (spD e.K Hu)
noncomputable abbrev xW(e:EQ):Prop:=bO e.P e.w e.K e.mg e.base CX0 5 e.t.pC e.t.um ["_law_bag_here","_law_d"] (spD e.K AI)
noncomputable abbrev kL(e:EQ):Prop:=bO e.P e.w e.K e.mg e.base CX0 5 e.t.iB e.t.mL ["_law_bag_here","_law_d"] (spD e.K qh)
noncomputable abbrev rp(e:EQ):Prop:=bO e.P e.w e.K e.mg e.base CX0 6 e.t.iM e.t.nh ["_law_bag_here","_law_d","_law_kinds_here"] (spD e.K uh)
noncomputable abbrev q9(e:EQ):Prop:=bO e.P e.w e.K e.mg e.base CX0 2 e.t.iD e.t.nc ["_law_bag_here"] (spD e.K EY)
noncomputable abbrev Ay(e:EQ):Prop:=bO e.P e.w e.K e.mg e.base CX0 3 e.t.qX e.t.wg ["_law_bag_here","_law_many"] (spD e.K Dt)
noncomputable abbrev wz(e:EQ):Prop:=bO e.P e.w e.K e.mg e.base CX0 4 e.t.uZ e.t.yT ["_law_some"] (spD e.K Au)
noncomputable abbrev xU(e:EQ):Prop:=bO e.P e.w e.K e.mg e.base CX0 18 e.t.fI e.t.gE ["_law_d","_law_kinds_here","_law_plan_here"] (spD e.K (fT 13))
noncomputable abbrev sL(e:EQ):Prop:=bO e.P e.w e.K e.mg e.base CX0 33 e.t.dy e.t.d8 ["_law_thing","_law_many","_law_deep"] (spD e.K (fX 31))
noncomputable abbrev qW(e:EQ):Prop:=bO e.P e.w e.K e.mg e.base CX0 34 e.t.iN e.t.mR ["_law_thing","_law_many"] (spD e.K xm)
noncomputable abbrev vf(e:EQ):Prop:=bO e.P e.w e.K e.mg e.base CX0 4 e.t.kO e.t.qC ["_law_bag_here","_law_d","_law_x"] (spD e.K zI)
noncomputable abbrev o7(e:EQ):Prop:=bO e.P e.w e.K e.mg e.base CX0 1 e.t.kB e.t.qi ["_law_row","_law_at","_law_thing"] (spD e.K sI)
noncomputable abbrev AQ(e:EQ):Prop:=bO e.P e.w e.K e.mg e.base CX0 15 e.t.da e.t.dH ["_law_bag_here","_law_plan_here","_law_many"] (spD e.K (hE 12))
noncomputable abbrev rG(e:EQ):Prop:=bO e.P e.w e.K e.mg e.base CX0 35 e.t.iu e.t.my ["_law_bag_here","_law_plan_here","_law_many"] (spD e.K Du)
noncomputable abbrev pk(e:EQ):Prop:=bO e.P e.w e.K e.mg e.base CX0 34 e.t.gD e.t.jH ["_law_bag_here","_law_d","_law_kinds_here","_law_plan_here"] (spD e.K OH)
noncomputable abbrev sH(e:EQ):Prop:=bO e.P e.w e.K e.mg e.base CX0 5 e.t.jd e.t.o5 ["_law_bag_here","_law_d","_law_end"] (spD e.K rY)
noncomputable abbrev vt(e:EQ):Prop:=bO e.P e.w e.K e.mg e.base CX0 3 e.t.kc e.t.qI ["_law_bag_here"] (spD e.K An)
noncomputable abbrev pq(e:EQ):Prop:=bO e.P e.w e.K e.mg e.base CX0 36 e.t.gz e.t.gu ["_law_bag_here","_law_d","_law_kinds_here","_law_plan_here"] (spD e.K Ag)
noncomputable abbrev Qn(e:EQ):Prop:=bO e.P e.w e.K e.mg e.base CX0 37 e.t.Oo e.t.Q7 ["_law_script"] (spD e.K Fl)
noncomputable abbrev fb(e:EQ):Prop:=bO e.P e.w e.K e.mg e.base (CX1 e.P e.w) 5 e.t.dq e.t.eh ["d","thing"] (spX e.K (.ref e.t.aE) xn)
noncomputable abbrev cQ(e:EQ):Prop:=bO e.P e.w e.K e.mg e.base (CX1 e.P e.w) 6 e.t.gO e.t.jh ["d","thing"] (spX e.K (.ref e.t.aG) pX)
noncomputable abbrev de(e:EQ):Prop:=bO e.P e.w e.K e.mg e.base (CX1 e.P e.w) 5 e.t.hW e.t.kr ["thing","many"] (spX e.K (.ref e.t.aK) ig)
noncomputable abbrev oi(e:EQ):Prop:=bO e.P e.w e.K e.mg e.base (CX1 e.P e.w) 20 e.t.mY e.t.qD ["d","kinds","plan"] (spX e.K (.ref e.t.aG) vJ)
noncomputable abbrev pf(e:EQ):Prop:=bO e.P e.w e.K e.mg e.base (CX1 e.P e.w) 20 e.t.mY e.t.qD ["d","kinds","plan"] (spX e.K (.ref e.t.aK) zH)
noncomputable abbrev km(e:EQ):Prop:=bO e.P e.w e.K e.mg e.base (CX1 e.P e.w) 7 e.t.ku e.t.pA ["d","kinds","plan"] (spX e.K (.ref e.t.aG) vJ)
noncomputable abbrev lG(e:EQ):Prop:=bO e.P e.w e.K e.mg e.base (CX1 e.P e.w) 7 e.t.ku e.t.pA ["d","kinds","plan"] (spX e.K (.ref e.t.aK) zH)
noncomputable abbrev ph(e:EQ):Prop:=bO e.P e.w e.K e.mg e.base (CX1 e.P e.w) 20 e.t.pN e.t.tD ["d","kinds","plan","x","y"] (spX e.K (.ref e.t.aG) FW)
noncomputable abbrev qy(e:EQ):Prop:=bO e.P e.w e.K e.mg e.base (CX1 e.P e.w) 20 e.t.pN e.t.tD ["d","kinds","plan","x","y"] (spX e.K (.ref e.t.aK) EF)
noncomputable abbrev qJ(e:EQ):Prop:=bO e.P e.w e.K e.mg e.base (CX1 e.P e.w) 20 e.t.pN e.t.tD ["d","kinds","plan","x","y"] (spX e.K (.ref e.t.aL) Ap)
noncomputable abbrev jW(e:EQ):Prop:=bO e.P e.w e.K e.mg e.base (CX1 e.P e.w) 7 e.t.lz e.t.p6 ["d","shape","x","y"] (spX e.K (.ref e.t.aL) Ds)
noncomputable abbrev nV(e:EQ):Prop:=bO e.P e.w e.K e.mg e.base (CX1 e.P e.w) 16 e.t.jG e.t.mf ["d","kinds","plan","width"] (spX e.K (.ref e.t.aG) D5)
noncomputable abbrev pj(e:EQ):Prop:=bO e.P e.w e.K e.mg e.base (CX1 e.P e.w) 16 e.t.jG e.t.mf ["d","kinds","plan","width"] (spX e.K (.ref e.t.aK) K7)
noncomputable abbrev lH(e:EQ):Prop:=bO e.P e.w e.K e.mg e.base (CX1 e.P e.w) 16 e.t.jG e.t.mf ["d","kinds","plan","width"] (spX e.K (.ref e.t.aE) Ej)
noncomputable abbrev nZ(e:EQ):Prop:=bO e.P e.w e.K e.mg e.base (CX1 e.P e.w) 16 e.t.jG e.t.mf ["d","kinds","plan","width"] (spX e.K (.ref e.t.aH) Kr)
noncomputable abbrev zG(e:EQ):Prop:=Cu e.P e.w e.K e.mg e.base 21 e.t.dS e.t.eU "_law_deed" (.ref e.t.aE) "NoNumber"
noncomputable abbrev CN(e:EQ):Prop:=Cu e.P e.w e.K e.mg e.base 21 e.t.dS e.t.eU "_law_deed" (.ref e.t.aG) "NoKinds"
noncomputable abbrev Ez(e:EQ):Prop:=Cu e.P e.w e.K e.mg e.base 21 e.t.dS e.t.eU "_law_deed" (.ref e.t.aK) "NoPlan"
noncomputable abbrev Ew(e:EQ):Prop:=Cu e.P e.w e.K e.mg e.base 21 e.t.dS e.t.eU "_law_deed" (.ref e.t.aL) "NoSpot"
noncomputable abbrev CM(e:EQ):Prop:=Cu e.P e.w e.K e.mg e.base 21 e.t.dS e.t.eU "_law_deed" (.ref e.t.aH) "TooMany"
section
variable {e:EQ}
theorem KG:aN ["thing"] ["thing"] (aC nz):=by walk_at "s"
theorem LJ(T:TX e):rA e:=by
 have S:=KG
 exact T.NC.okD S (fun ds U Q h=>Cz h) (fun cdv A outer s H E hr=>⟨qR,(av (aJ (iY (p4 (OD _) rfl T.ao rfl T.xZ PyProof.Rows.Boot.«int» (dv 0)) (oX (Qg (p4 (Kf _) rfl T.ao rfl T.R3 PyProof.Rows.Boot.«bool» (dv 0))))))),fun ds U Qd h=>CB h⟩)
theorem AG:aN ["a","b"] ["a","b"] (aC eu):=by walk_at "s"
theorem zE(T:TX e):qY e:=by
 have S:=AG
 exact T.Ca.okD S (fun ds U Q h=>Hx h) (fun cdv A outer s H E hr=>⟨ki,(aj (FX PassesOwn.never (aZ (yc hr.units) bI (dv 1) ah (aM _)) (av (Bs (i:=0) (j:=1) rfl S.nd rfl rfl ⋯ rfl rfl (aa (dv 1) (aa (qH (dv 0) (dv 1)) af)) rfl)))
  (av (aJ (Et rfl T.K6 (aa (dv 0) af))))),fun ds U Qd h=>Ak h⟩)
theorem BR:aN ["d","a","b","prevailing"] ["d","a","b"] (aC fu):=by walk_at "s"
theorem BS(T:TX e):mh e:=by
 have S:=BR
 exact T.CZ.okD S (fun ds U Q h=>Kx h) (fun cdv A outer s H E hr=>⟨mD,(aj (bY (DW.dt (jF (aZ (bU hr.units) bI (dv 1) ah (aM _)) (iF (aZ (bU hr.units) bI (dv 2) ah (aM _))))) (av (aJ ah)) br)
  (aj (bY (DW.dt (jF (aZ Cr eT (dv 1) ah (aM _)) (iF (aZ Cr eT (dv 2) ah (aM _))))) (av (aJ ah)) br)
  (aj (bY (DW.dt (jF (aZ Cy eT (dv 1) ah (aM _)) (iF (aZ Cy eT (dv 2) ah (aM _))))) (av (aJ (pY ah))) br)
  (aj (aT (i:=3) S.nd rfl (Or.inl rfl) (E6 (aZ lM eT (bH (dv 1) (dv 1)) (bH (bH (dv 0) (dv 2)) (dv 2)) (aM _)) (dv 1) (dv 2)))
  (av (aJ (E6 (aZ lM eT (dv 3) ah (aM _)) ah (pY ah)))))))),fun ds U Qd h=>Bn h⟩)
theorem KJ:aN ["plan","word"] ["plan"] (aC ml):=by walk_at "s"
theorem LC(T:TX e):jK e:=by
 have S:=KJ
 exact T.NH.okD S (fun ds U Q h=>KD h) (fun cdv A outer s H E hr=>⟨xc,(aj (aT (i:=1) S.nd rfl (Or.inl rfl) (aA (dv 0) ah))
  (aj (bY (aZ (bU hr.units) bI (dv 1) aw (aM _)) (av (aJ (cf af))) br)
  (aj (bY (DW.dt (kj (aZ (bU hr.units) bI (dv 1) aw (aM _)) (lZ (aZ (bU hr.units) bI (dv 1) aw (aM _))))) (av (aJ (xt rfl T.BY (aa (aA (dv 0) ah) af)))) br)
  (av (aJ (cf (aa (aA (dv 0) (pY ah)) af))))))),fun ds U Qd h=>K8 h⟩)
theorem LA:aN ["_law_script","_law_at","_law_cell","_law_great","_law_primes","_law_mixed"] ["_law_script","_law_at"] (aC nB):=by walk_at "s"
theorem KH(T:TX e):CI e:=by
 have S:=LA
 exact T.MN.okD S (fun ds U Q h=>OL h) (fun cdv A outer s H E hr=>⟨w5,(aj (aT (i:=2) S.nd rfl (Or.inl rfl) ah)
  (aj (bY (aZ tK eT (dv 1) (cH rfl T.dD (aa (dv 0) af)) (aM _)) (av (aT (i:=2) S.nd rfl (Or.inl rfl) (aA (dv 0) (dv 1)))) br)
  (aj (aT (i:=3) S.nd rfl (Or.inl rfl) ah)
  (aj (bY (aZ Cr eT (Et rfl T.K6 (aa (dv 2) af)) (Cd ah ah) (aM _)) (av (aT (i:=3) S.nd rfl (Or.inl rfl) (Et rfl T.K6 (aa (dv 2) af)))) br)
  (aj (aT (i:=4) S.nd rfl (Or.inl rfl) (cf (aa ah (aa ah (aa ah (aa ah (aa ah (aa ah (aa ah (aa ah af))))))))))
  (aj (aT (i:=5) S.nd rfl (Or.inl rfl) (dg (dg (dg (bH (qH (dv 2) ah) ah) (bH (bH ah (dv 1)) (dv 1))) (bH ah (dv 1))) ah))
  (av (aJ (DD (aa (dv 3) (aa (qH (dv 5) (aA (dv 4) (qH (dv 1) ah))) af))))))))))),fun ds U Qd h=>La h⟩)
theorem JD:aN ["_law_bag_here","_law_many","_law_digit"] ["_law_bag_here","_law_many"] (aC jL):=by walk_at "s"
theorem IK(T:TX e):cj e:=by
 have S:=JD
 exact T.Km.okD S (fun ds U Q h=>Ms h) (fun cdv A outer s H E hr=>⟨u7,(aj (bY (aZ lM eT (aA (dv 0) ah) ah (aM _)) (aj (aT (i:=2) S.nd rfl (Or.inl rfl) (qH (aA (dv 0) ah) (dv 1)))
  (aj (rL (rN (aA (dv 0) ah) (dv 1)) (RQ (dv 0) ah))
  (av (aJ (dv 2))))) br)
  (aj (rL (qH (dg (bH (aA (dv 0) ah) ah) ah) ah) (RQ (dv 0) ah))
  (av (aJ (qH (rN (qH (Cd (aA (dv 0) ah) ah) ah) ah) (dv 1)))))),fun ds U Qd h=>Ip h⟩)
theorem B1:aN ["_law_thing"] ["_law_thing"] (aC fq):=by walk_at "s"
theorem Bh(T:TX e):iy e:=by
 have S:=B1
 exact T.Dm.okD S (fun ds U Q h=>Cz h) (fun cdv A outer s H E hr=>⟨rZ,(av (aJ (iY (p4 (OD _) rfl T.ao rfl T.xZ PyProof.Rows.Boot.«int» (dv 0)) (oX (Qg (p4 (Kf _) rfl T.ao rfl T.R3 PyProof.Rows.Boot.«bool» (dv 0))))))),fun ds U Qd h=>Bg h⟩)
theorem E5:aN ["_law_one","_law_other"] ["_law_one","_law_other"] (aC gW):=by walk_at "s"
theorem FI(T:TX e):qp e:=by
 have S:=E5
 exact T.Gx.okD S (fun ds U Q h=>Hx h) (fun cdv A outer s H E hr=>⟨qb,(aj (Bs (i:=0) (j:=1) rfl S.nd rfl rfl ⋯ rfl rfl (aa (Et rfl T.K6 (aa (dv 0) af)) (aa (Et rfl T.K6 (aa (dv 1) af)) af)) rfl)
  (aj (FX PassesOwn.never (aZ lM eT (dv 1) ah (aM _)) (av (Bs (i:=0) (j:=1) rfl S.nd rfl rfl ⋯ rfl rfl (aa (dv 1) (aa (qH (dv 0) (dv 1)) af)) rfl)))
  (av (aJ (dv 0))))),fun ds U Qd h=>E1 h⟩)
theorem GU:aN ["_law_x"] ["_law_x"] (aC iq):=by walk_at "s"
theorem Gv(T:TX e):jc e:=by
 have S:=GU
 exact T.Jh.okD S (fun ds U Q h=>LZ h) (fun cdv A outer s H E hr=>⟨rJ,(av (aJ (az (aa (hU ah (aA (dv 0) ah)) (aa (hU ah (aA (dv 0) ah)) (aa (aA (dv 0) ah) af)))))),fun ds U Qd h=>GN h⟩)
theorem Im:aN ["_law_d","_law_x","_law_first","_law_second","_law_sides"] ["_law_d","_law_x"] (aC jS):=by walk_at "s"
theorem Ig(T:TX e):uI e:=by
 have S:=Im
 exact T.KP.okD S (fun ds U Q h=>E4 h) (fun cdv A outer s H E hr=>⟨vc,(aj (Bs (i:=2) (j:=3) rfl S.nd rfl rfl ⋯ rfl rfl (aa (bH (aA (dv 1) ah) (aA (dv 1) ah)) (aa (bH (bH (dv 0) (aA (dv 1) ah)) (aA (dv 1) ah)) af)) rfl)
  (aj (aT (i:=4) S.nd rfl (Or.inl rfl) (cf (aa (hU (nW rfl T.xZ (aa (fN lM eT (aA (dv 1) ah) ah (aM _)) af)) (nW rfl T.xZ (aa (fN tK eT (aA (dv 1) ah) ah (aM _)) af))) (aa (hU (nW rfl T.xZ (aa (fN lM eT (aA (dv 1) ah) ah (aM _)) af)) (nW rfl T.xZ (aa (fN tK eT (aA (dv 1) ah) ah (aM _)) af))) af))))
  (aj (bY (aZ Cr eT (bH (aA (dv 4) ah) (aA (dv 4) ah)) ah (aM _)) (av (aJ (E6 (aZ (yc hr.units) bI (aA (dv 4) ah) ah (aM _)) (aA (dv 4) ah) (aA (dv 4) ah)))) br)
  (av (aJ (E6 (aZ lM eT (dv 2) (dv 3) (aM _)) (aA (dv 4) ah) (aA (dv 4) ah))))))),fun ds U Qd h=>Jx h⟩)
theorem CY:aN ["_law_row","_law_at","_law_thing"] ["_law_row","_law_at","_law_thing"] (aC gh):=by walk_at "s"
theorem C1(T:TX e):o7 e:=by
 have S:=CY
 exact T.FP.okD S (fun ds U Q h=>GB h) (fun cdv A outer s H E hr=>⟨oo,(av (aJ (fH (fH (i9 (dv 0) pH (kK (dv 1))) (az (aa (dv 2) af))) (i9 (dv 0) (kK (fH (dv 1) ah)) pH)))),fun ds U Qd h=>Dl h⟩)
theorem Ae:aN ["a","b","c"] ["a","b","c"] (aC eM):=by walk_at "s"
theorem Al(T:TX e)(iK:qY e):kq e:=by
 have S:=Ae
 exact T.A6.okD S (fun ds U Q h=>NL h) (fun cdv A outer s H E hr=>⟨kz,(av (aJ (ak iK (hr.mono ⋯) rfl T.sU T.sv T.tm (aa (ak iK (hr.mono ⋯) rfl T.sU T.sv T.tm (aa (dv 2) (aa (dv 0) af))) (aa (dv 1) af))))),fun ds U Qd h=>zw h⟩)
theorem Nb:aN ["d","x"] ["d","x"] (aC pQ):=by walk_at "s"
theorem Ni(T:TX e)(fi:mh e):Ee e:=by
 have S:=Nb
 exact T.Pf.okD S (fun ds U Q h=>E4 h) (fun cdv A outer s H E hr=>⟨yo,(av (aJ (ak fi (hr.mono ⋯) rfl T.vj T.vv T.vp (aa (dv 0) (aa (aA (dv 1) ah) (aa (aA (dv 1) ah) af)))))),fun ds U Qd h=>Mw h⟩)
theorem Ld:aN ["d","x","y","a","b"] ["d","x","y"] (aC nj):=by walk_at "s"
theorem J8(T:TX e)(fi:mh e):Ci e:=by
 have S:=Ld
 exact T.Mg.okD S (fun ds U Q h=>KQ h) (fun cdv A outer s H E hr=>⟨vY,(aj (aT (i:=3) S.nd rfl (Or.inl rfl) (hU (bH (aA (dv 1) ah) (aA (dv 2) ah)) (bH (aA (dv 2) ah) (aA (dv 1) ah))))
  (aj (aT (i:=4) S.nd rfl (Or.inl rfl) (hU (bH (aA (dv 1) ah) (aA (dv 2) ah)) (bH (aA (dv 2) ah) (aA (dv 1) ah))))
  (av (aJ (fN (bU hr.units) bI (ak fi (hr.mono ⋯) rfl T.vj T.vv T.vp (aa (dv 0) (aa (dv 3) (aa (dv 4) af)))) ah (aM _)))))),fun ds U Qd h=>LS h⟩)
theorem JP:aN ["thing"] ["thing"] (aC nF):=by walk_at "s"
theorem LB(T:TX e)(eO:rA e):Cp e:=by
 have S:=JP
 exact T.Md.okD S (fun ds U Q h=>JX h) (fun cdv A outer s H E hr=>⟨vP,(av (aJ (iY (ak eO (hr.mono ⋯) rfl T.pZ T.qK T.p5 (aa (dv 0) af)) (oX (fN Cr eT (dv 0) ah (aM _)))))),fun ds U Qd h=>K5 h⟩)
theorem JT:aN ["_law_a","_law_b","_law_c","_law_common"] ["_law_a","_law_b","_law_c"] (aC l4):=by walk_at "s"
theorem LW(T:TX e)(en:qp e):dO e:=by
 have S:=JT
 exact T.MS.okD S (fun ds U Q h=>Ao h) (fun cdv A outer s H E hr=>⟨vI,(aj (aT (i:=3) S.nd rfl (Or.inl rfl) (bH (ak en (hr.mono ⋯) rfl T.nP T.nS T.nQ (aa (ak en (hr.mono ⋯) rfl T.nP T.nS T.nQ (aa (dv 0) (aa (dv 1) af))) (aa (dv 2) af))) (aA (cf (aa ah (aa (pY ah) af))) (nW rfl T.xZ (aa (fN tK eT (dv 2) ah (aM _)) af)))))
  (av (aJ (az (aa (rN (dv 0) (dv 3)) (aa (rN (dv 1) (dv 3)) (aa (rN (dv 2) (dv 3)) af))))))),fun ds U Qd h=>Kz h⟩)
theorem Ar:aN ["_law_thing"] ["_law_thing"] (aC eJ):=by walk_at "s"
theorem zB(T:TX e)(aD:iy e)(en:qp e):rH e:=by
 have S:=Ar
 exact T.B6.okD S (fun ds U Q h=>Fw h) (fun cdv A outer s H E hr=>⟨kG,(aj (bY (DW.dt (kj (fW (cO (p4 (kit_tuple _) rfl T.ao rfl T.nL PyProof.Rows.Boot.«tuple» (dv 0)))) (kj (aZ (yc hr.units) bI (cH rfl T.dD (aa (dv 0) af)) ah (aM _)) (lZ (fW (cO (Iu rfl rfl T.N0 (aa (Jk (N':=["_law_one"]) (cap:=[none]) rfl (DV (dv 0)) (fun _ _ _=>(aV (i:=0) (show List.Nodup (["_law_one"]:List Str) by decide +kernel) rfl (Or.inl rfl))) (fun _ _ _=>fz) (fun _ _ _=>(ak aD (hr.mono ⋯) rfl T.oQ T.ot T.o6 (aa (dv 0) af))) rfl nofun rfl nofun (by walk_at "cl") (cC rfl) rfl (eS trivial)) af)))))))) (av (aJ kM)) br)
  (av (aJ (iY (fN lM eT (aA (dv 0) ah) ah (aM _)) (oX (fN (bU hr.units) bI (ak en (hr.mono ⋯) rfl T.nP T.nS T.nQ (aa (ak en (hr.mono ⋯) rfl T.nP T.nS T.nQ (aa (aA (dv 0) ah) (aa (aA (dv 0) ah) af))) (aa (aA (dv 0) ah) af))) ah (aM _))))))),fun ds U Qd h=>zW h⟩)
theorem HX:aN ["_law_bag_here","_law_some"] ["_law_bag_here"] (aC jZ):=by walk_at "s"
theorem Iq(T:TX e)(aq:cj e):AJ e:=by
 have S:=HX
 exact T.KN.okD S (fun ds U Q h=>LV h) (fun cdv A outer s H E hr=>⟨uW,(aj (bY (aZ (bU hr.units) bI (ak aq (hr.mono ⋯) rfl T.aP T.aQ T.aO (aa (dv 0) (aa ah af))) ah (aM _)) (av (aJ (aA (cf (aa ah (aa ah (aa ah af)))) (ak aq (hr.mono ⋯) rfl T.aP T.aQ T.aO (aa (dv 0) (aa ah af)))))) br)
  (aj (nU (i:=1) (N':=["_law_d"]) (cap:=[none]) S.nd rfl rfl rfl (Si rfl T.uF (aa ah (aa ah af))) (fun _ _ _=>(aV (i:=0) (show List.Nodup (["_law_d"]:List Str) by decide +kernel) rfl (Or.inl rfl))) (fun _ _ _=>(tw (aZ (Ph hr.units) Nk (dv 0) (cf (aa ah (aa ah (aa ah (aa ah af))))) (by with_unfolding_all rfl)))) (fun _ _ _=>(dv 0)) rfl nofun rfl nofun (by walk_at "cl") (cC rfl) rfl (eS trivial))
  (av (aJ (aA (dv 1) (ak aq (hr.mono ⋯) rfl T.aP T.aQ T.aO (aa (dv 0) (aa ah af)))))))),fun ds U Qd h=>JN h⟩)
theorem KS:aN ["_law_bag_here","_law_some"] ["_law_bag_here"] (aC ny):=by walk_at "s"
theorem Lc(T:TX e)(aq:cj e):nX e:=by
 have S:=KS
 exact T.MG.okD S (fun ds U Q h=>Pa h) (fun cdv A outer s H E hr=>⟨wY,(aj (aT (i:=1) S.nd rfl (Or.inl rfl) (cf (aa IB (aa kM (aa kM (aa aw (aa aw (aa (pY ah) (aa ah (aa ah (aa (Cd ah ah) (aa (az af) (aa (cf af) (aa (cf (aa ah af)) (aa (az (aa ah (aa ah af))) (aa (az (aa ah (aa ah (aa ah af)))) (aa (az (aa ah (aa ah (aa ah af)))) (aa (az (aa ah (aa kM (aa ah af)))) (aa (az (aa ah (aa ah (aa (pY ah) af)))) (aa (cf (aa ah (aa ah (aa ah af)))) (aa (az (aa ah (aa ah af))) (aa aw af))))))))))))))))))))))
  (av (aJ (aA (dv 1) (ak aq (hr.mono ⋯) rfl T.aP T.aQ T.aO (aa (dv 0) (aa ah af))))))),fun ds U Qd h=>Lr h⟩)
theorem zP:aN ["_law_bag_here"] ["_law_bag_here"] (aC eL):=by walk_at "s"
theorem zC(T:TX e)(aq:cj e):q9 e:=by
 have S:=zP
 exact T.BA.okD S (fun ds U Q h=>Nj h) (fun cdv A outer s H E hr=>⟨j9,(av (aJ (dg ah (ak aq (hr.mono ⋯) rfl T.aP T.aQ T.aO (aa (dv 0) (aa (aA (cf (aa ah (aa ah (aa ah (aa ah (aa ah (aa ah (aa ah (aa (Cd ah ah) af))))))))) (ak aq (hr.mono ⋯) rfl T.aP T.aQ T.aO (aa (dv 0) (aa ah af)))) af)))))),fun ds U Qd h=>zl h⟩)
theorem HS:aN ["thing","a","b","c"] ["thing"] (aC jN):=by walk_at "s"
theorem JB(T:TX e)(eO:rA e)(eD:kq e):uK e:=by
 have S:=HS
 exact T.Lv.okD S (fun ds U Q h=>Fw h) (fun cdv A outer s H E hr=>⟨uY,(aj (bY (DW.dt (kj (fW (cO (p4 (kit_tuple _) rfl T.ao rfl T.nL PyProof.Rows.Boot.«tuple» (dv 0)))) (lZ (aZ (yc hr.units) bI (cH rfl T.dD (aa (dv 0) af)) ah (aM _))))) (av (aJ kM)) br)
  (aj (rL (dv 0) (iR (n:=3) rfl (bD (aV (i:=1) S.nd rfl (Or.inl rfl)) (bD (aV (i:=2) S.nd rfl (Or.inl rfl)) (bD (aV (i:=3) S.nd rfl (Or.inl rfl)) fQ)))))
  (aj (bY (DW.dt (kj (fW (cO (ak eO (hr.mono ⋯) rfl T.pZ T.qK T.p5 (aa (dv 1) af)))) (kj (fW (cO (ak eO (hr.mono ⋯) rfl T.pZ T.qK T.p5 (aa (dv 2) af)))) (lZ (fW (cO (ak eO (hr.mono ⋯) rfl T.pZ T.qK T.p5 (aa (dv 3) af)))))))) (av (aJ kM)) br)
  (av (aJ (iY (fN Cr eT (dv 3) ah (aM _)) (oX (fN (bU hr.units) bI (ak eD (hr.mono ⋯) rfl T.sX T.sE T.sC (aa (dv 1) (aa (dv 2) (aa (dv 3) af)))) ah (aM _))))))))),fun ds U Qd h=>IY h⟩)
theorem PM:aN ["a","b","c","divisor"] ["a","b","c"] (aC sJ):=by walk_at "s"
theorem O0(T:TX e)(eD:kq e):pT e:=by
 have S:=PM
 exact T.RF.okD S (fun ds U Q h=>Ao h) (fun cdv A outer s H E hr=>⟨Bv,(aj (bY (aZ (bU hr.units) bI (dv 2) ah (aM _)) (av AO) br)
  (aj (aT (i:=3) S.nd rfl (Or.inl rfl) (ak eD (hr.mono ⋯) rfl T.sX T.sE T.sC (aa (dv 0) (aa (dv 1) (aa (dv 2) af)))))
  (aj (bY (aZ tK eT (dv 2) ah (aM _)) (av (aT (i:=3) S.nd rfl (Or.inl rfl) (pY (dv 3)))) br)
  (av (aJ (az (aa (rN (dv 0) (dv 3)) (aa (rN (dv 1) (dv 3)) (aa (rN (dv 2) (dv 3)) af))))))))),fun ds U Qd h=>Pc h⟩)
theorem JO:aN ["thing","many","word"] ["thing","many"] (aC mP):=by walk_at "s"
theorem KY(T:TX e)(tV:Cp e)(eO:rA e):Cm e:=by
 have S:=JO
 exact T.ME.okD S (fun ds U Q h=>MP h) (fun cdv A outer s H E hr=>⟨w8,(aj (bY (DW.dt (kj (fW (cO (p4 (kit_tuple _) rfl T.ao rfl T.nL PyProof.Rows.Boot.«tuple» (dv 0)))) (lZ (aZ tK eT (cH rfl T.dD (aa (dv 0) af)) ah (aM _))))) (av (aJ kM)) br)
  (aj (aT (i:=2) S.nd rfl (Or.inl rfl) (aA (dv 0) ah))
  (aj (bY (aZ (bU hr.units) bI (dv 2) aw (aM _)) (av (aJ (iY (fN (bU hr.units) bI (cH rfl T.dD (aa (dv 0) af)) ah (aM _)) (iY (ak tV (hr.mono ⋯) rfl T.FC T.DQ T.Ei (aa (aA (dv 0) ah) af)) (oX (ak tV (hr.mono ⋯) rfl T.FC T.DQ T.Ei (aa (aA (dv 0) ah) af))))))) br)
  (aj (bY (aZ (yc hr.units) bI (cH rfl T.dD (aa (dv 0) af)) ah (aM _)) (av (aJ kM)) br)
  (aj (bY (aZ (bU hr.units) bI (dv 2) aw (aM _)) (av (aJ (iY (ak eO (hr.mono ⋯) rfl T.pZ T.qK T.p5 (aa (aA (dv 0) ah) af)) (iY (fN Cr eT (aA (dv 0) ah) ah (aM _)) (oX (fN tK eT (aA (dv 0) ah) (dv 1) (aM _))))))) br)
  (aj (bY (DW.dt (kj (aZ (bU hr.units) bI (dv 2) aw (aM _)) (lZ (aZ (bU hr.units) bI (dv 2) aw (aM _))))) (av (aJ (iY (p4 (kit_tuple _) rfl T.ao rfl T.nL PyProof.Rows.Boot.«tuple» (aA (dv 0) ah)) (iY (fN Cr eT (cH rfl T.dD (aa (aA (dv 0) ah) af)) (uA (u:=.int 2) rfl T.Gz ⟨_,rfl⟩ (fun _ _ _=>Rp.int 2)) (aM _)) (oX (fN Cy eT (cH rfl T.dD (aa (aA (dv 0) ah) af)) (uA (u:=.int 8) rfl T.Ji ⟨_,rfl⟩ (fun _ _ _=>Rp.int 8)) (aM _))))))) br)
  (av (aJ (fN (bU hr.units) bI (dv 2) aw (aM _)))))))))),fun ds U Qd h=>Kb h⟩)
theorem Iw:aN ["_law_x","_law_y"] ["_law_x","_law_y"] (aC jV):=by walk_at "s"
theorem Ir(T:TX e)(aU:dO e):uj e:=by
 have S:=Iw
 exact T.JQ.okD S (fun ds U Q h=>E9 h) (fun cdv A outer s H E hr=>⟨zo,(av (aJ (ak aU (hr.mono ⋯) rfl T.gA T.gF T.gw (aa (dg (bH (aA (dv 0) ah) (aA (dv 1) ah)) (bH (aA (dv 1) ah) (aA (dv 0) ah))) (aa (dg (bH (aA (dv 0) ah) (aA (dv 1) ah)) (bH (aA (dv 1) ah) (aA (dv 0) ah))) (aa (bH (aA (dv 0) ah) (aA (dv 1) ah)) af)))))),fun ds U Qd h=>Ie h⟩)
theorem Gq:aN ["_law_d","_law_x","_law_y"] ["_law_d","_law_x","_law_y"] (aC iJ):=by walk_at "s"
theorem Ge(T:TX e)(aU:dO e):ja e:=by
 have S:=Gq
 exact T.Ii.okD S (fun ds U Q h=>Cw h) (fun cdv A outer s H E hr=>⟨xY,(av (aJ (ak aU (hr.mono ⋯) rfl T.gA T.gF T.gw (aa (dg (bH (aA (dv 1) ah) (aA (dv 2) ah)) (bH (bH (dv 0) (aA (dv 1) ah)) (aA (dv 2) ah))) (aa (dg (bH (aA (dv 1) ah) (aA (dv 2) ah)) (bH (aA (dv 1) ah) (aA (dv 2) ah))) (aa (bH (aA (dv 1) ah) (aA (dv 2) ah)) af)))))),fun ds U Qd h=>GZ h⟩)
theorem Bl:aN ["_law_d","_law_x"] ["_law_d","_law_x"] (aC fj):=by walk_at "s"
theorem BQ(T:TX e)(aU:dO e):iI e:=by
 have S:=Bl
 exact T.Dn.okD S (fun ds U Q h=>vF h) (fun cdv A outer s H E hr=>⟨nC,(av (aJ (ak aU (hr.mono ⋯) rfl T.gA T.gF T.gw (aa (bH (aA (dv 1) ah) (aA (dv 1) ah)) (aa (hU ah (bH (aA (dv 1) ah) (aA (dv 1) ah))) (aa (hU (bH (aA (dv 1) ah) (aA (dv 1) ah)) (bH (bH (dv 0) (aA (dv 1) ah)) (aA (dv 1) ah))) af)))))),fun ds U Qd h=>B0 h⟩)
theorem D2:aN ["_law_bag_here","_law_wide","_law_a","_law_b","_law_c","_law_way"] ["_law_bag_here"] (aC gU):=by walk_at "s"
theorem Ey(T:TX e)(aq:cj e)(aU:dO e):wA e:=by
 have S:=D2
 exact T.Gp.okD S (fun ds U Q h=>G0 h) (fun cdv A outer s H E hr=>⟨qA,(aj (aT (i:=1) S.nd rfl (Or.inl rfl) (aA (cf (aa ah (aa ah (aa ah (aa ah af))))) (ak aq (hr.mono ⋯) rfl T.aP T.aQ T.aO (aa (dv 0) (aa ah af)))))
  (aj (Bs (i:=2) (j:=3) rfl S.nd rfl rfl ⋯ rfl rfl (aa (hU (ak aq (hr.mono ⋯) rfl T.aP T.aQ T.aO (aa (dv 0) (aa (dv 1) af))) (rN (dv 1) ah)) (aa (hU (ak aq (hr.mono ⋯) rfl T.aP T.aQ T.aO (aa (dv 0) (aa (dv 1) af))) (rN (dv 1) ah)) af)) rfl)
  (aj (aT (i:=4) S.nd rfl (Or.inl rfl) (dg ah (ak aq (hr.mono ⋯) rfl T.aP T.aQ T.aO (aa (dv 0) (aa (hU (dv 1) ah) af)))))
  (aj (aT (i:=5) S.nd rfl (Or.inl rfl) (ak aq (hr.mono ⋯) rfl T.aP T.aQ T.aO (aa (dv 0) (aa ah af))))
  (av (aJ (ak aU (hr.mono ⋯) rfl T.gA T.gF T.gw (aa (aA (cf (aa (dv 2) (aa (dv 2) (aa (dv 2) (aa (dv 2) (aa (dv 2) (aa (dv 2) (aa (dv 2) (aa ah af))))))))) (dv 5)) (aa (aA (cf (aa (dv 3) (aa (dv 3) (aa (dv 3) (aa (dv 3) (aa (dv 3) (aa ah (aa ah (aa (dv 3) af))))))))) (dv 5)) (aa (aA (cf (aa (dv 4) (aa (dv 4) (aa ah (aa (dv 4) (aa ah (aa (dv 4) (aa ah (aa (dv 4) af))))))))) (dv 5)) af)))))))))),fun ds U Qd h=>Fv h⟩)
theorem HH:aN ["_law_bag_here","_law_many","_law_leaves","_law_parts","_law_turn","_law_deep","_law_size","_law_plan_here","_law_way","_law_whole","_law_count","_law_some","_law_inner","_law_sizes","_law_most"] ["_law_bag_here","_law_many"] (aC jP):=by walk_at "s"
theorem IP(T:TX e)(aq:cj e)(iG:q9 e):Ay e:=by
 have S:=HH
 exact T.J1.okD S (fun ds U Q h=>JR h) (fun cdv A outer s H E hr=>⟨ve,(aj (aT (i:=2) S.nd rfl (Or.inl rfl) (dg ah (ak aq (hr.mono ⋯) rfl T.aP T.aQ T.aO (aa (dv 0) (aa (aA (cf (aa ah (aa ah (aa ah af)))) (ak aq (hr.mono ⋯) rfl T.aP T.aQ T.aO (aa (dv 0) (aa ah af)))) af)))))
  (aj (aT (i:=3) S.nd rfl (Or.inr rfl) (Qs (N':=["_law_k","_law_bag_here","_law_many"]) (cap:=[none,some 0,some 1]) rfl (xB rfl T.uF (aa (dv 2) af)) (fun _ _ _=>(aV (i:=0) (show List.Nodup (["_law_k","_law_bag_here","_law_many"]:List Str) by decide +kernel) rfl (Or.inl rfl))) (fun _ _ _=>fz) (fun _ _ _=>(az (aa ah (aa ah (aa (az (aa aw (aa (ak aq (hr.mono ⋯) rfl T.aP T.aQ T.aO (aa (dv 1) (aa (dv 2) af))) af))) af))))) rfl nofun rfl nofun (by walk_at "cl") (cC rfl) rfl (eS ⟨BP,⟨BP,trivial⟩⟩)))
  (aj (wI PassesOwn.never rfl (xB rfl T.uF (aa ah af)) (aV (i:=4) S.nd rfl (Or.inl rfl)) (aj (rL (Ky (dv 3) (ak aq (hr.mono ⋯) rfl T.aP T.aQ T.aO (aa (dv 0) (aa (cH rfl T.dD (aa (dv 3) af)) af)))) (iR (n:=3) rfl (bD (aV (i:=5) S.nd rfl (Or.inl rfl)) (bD (aV (i:=6) S.nd rfl (Or.inl rfl)) (bD (aV (i:=7) S.nd rfl (Or.inl rfl)) fQ)))))
  (aj (aT (i:=8) S.nd rfl (Or.inl rfl) (ak aq (hr.mono ⋯) rfl T.aP T.aQ T.aO (aa (dv 0) (aa ah af))))
  (aj (bY (aZ (bU hr.units) bI (dv 8) ah (aM _)) (av (aT (i:=9) S.nd rfl (Or.inl rfl) (az (aa (dg (dv 5) ah) (aa (dg (dv 6) ah) (aa (az (aa aw (aa (dv 7) af))) af)))))) (av (bY (aZ (bU hr.units) bI (dv 8) ah (aM _)) (av (aT (i:=9) S.nd rfl (Or.inl rfl) (az (aa (dg (dv 5) ah) (aa (dg (dv 6) ah) (aa (az (aa aw (aa (ak iG (hr.mono ⋯) rfl T.sA T.sD T.sN (aa (dv 0) af)) (aa (ak iG (hr.mono ⋯) rfl T.sA T.sD T.sN (aa (dv 0) af)) (aa (dv 7) af))))) af)))))) (aj (aT (i:=10) S.nd rfl (Or.inl rfl) (Qt rfl rfl T.PY (aa (cH rfl T.dD (aa (dv 3) af)) (aa (dg ah (ak aq (hr.mono ⋯) rfl T.aP T.aQ T.aO (aa (dv 0) (aa (aA (cf (aa ah (aa ah (aa ah (aa ah af))))) (ak aq (hr.mono ⋯) rfl T.aP T.aQ T.aO (aa (dv 0) (aa ah af)))) af)))) af))))
  (aj (aT (i:=11) S.nd rfl (Or.inl rfl) (fH (cf (aa (az (aa (dv 5) (aa (dv 6) (aa (dv 7) af)))) af)) (tO (N':=["_law_k","_law_parts","_law_bag_here"]) (cap:=[none,some 3,some 0]) rfl (xB rfl T.uF (aa (dv 10) af)) (fun _ _ _=>(aV (i:=0) (show List.Nodup (["_law_k","_law_parts","_law_bag_here"]:List Str) by decide +kernel) rfl (Or.inl rfl))) (fun _ _ _=>fz) (fun _ _ _=>(Ky (dv 1) (ak aq (hr.mono ⋯) rfl T.aP T.aQ T.aO (aa (dv 2) (aa (cH rfl T.dD (aa (dv 1) af)) af))))) rfl nofun rfl nofun (by walk_at "cl") (cC rfl) rfl (eS ⟨BP,⟨BP,trivial⟩⟩))))
  (aj (bY (aZ (bU hr.units) bI (cH rfl T.dD (aa (dv 11) af)) ah (aM _)) (av (aT (i:=11) S.nd rfl (Or.inl rfl) (fH (dv 11) (dv 11)))) br)
  (aj (aT (i:=12) S.nd rfl (Or.inl rfl) (Fo rfl T.nL (aa (tO (N':=["_law_here","_law_many_in","_law_part"]) (cap:=[none,none,none]) rfl (fS (dv 11)) (fun _ _ _=>(iR (n:=3) rfl (bD (aV (i:=0) (show List.Nodup (["_law_here","_law_many_in","_law_part"]:List Str) by decide +kernel) rfl (Or.inl rfl)) (bD (aV (i:=1) (show List.Nodup (["_law_here","_law_many_in","_law_part"]:List Str) by decide +kernel) rfl (Or.inl rfl)) (bD (aV (i:=2) (show List.Nodup (["_law_here","_law_many_in","_law_part"]:List Str) by decide +kernel) rfl (Or.inl rfl)) fQ))))) (fun _ _ _=>fz) (fun _ _ _=>(dv 2)) rfl nofun rfl nofun (by walk_at "cl") (cC rfl) rfl (eS trivial)) af)))
  (aj (nU (i:=13) (N':=["_law_here","_law_many_in","_law_part"]) (cap:=[none,none,none]) S.nd rfl rfl rfl (fS (dv 11)) (fun _ _ _=>(iR (n:=3) rfl (bD (aV (i:=0) (show List.Nodup (["_law_here","_law_many_in","_law_part"]:List Str) by decide +kernel) rfl (Or.inl rfl)) (bD (aV (i:=1) (show List.Nodup (["_law_here","_law_many_in","_law_part"]:List Str) by decide +kernel) rfl (Or.inl rfl)) (bD (aV (i:=2) (show List.Nodup (["_law_here","_law_many_in","_law_part"]:List Str) by decide +kernel) rfl (Or.inl rfl)) fQ))))) (fun _ _ _=>fz) (fun _ _ _=>(dv 1)) rfl nofun rfl nofun (by walk_at "cl") (cC rfl) rfl (eS trivial))
  (aj (aT (i:=14) S.nd rfl (Or.inl rfl) (dg ah (TU rfl rfl T.TV (aa (tO (N':=["_law_here","_law_many_in","_law_part"]) (cap:=[none,none,none]) rfl (fS (dv 11)) (fun _ _ _=>(iR (n:=3) rfl (bD (aV (i:=0) (show List.Nodup (["_law_here","_law_many_in","_law_part"]:List Str) by decide +kernel) rfl (Or.inl rfl)) (bD (aV (i:=1) (show List.Nodup (["_law_here","_law_many_in","_law_part"]:List Str) by decide +kernel) rfl (Or.inl rfl)) (bD (aV (i:=2) (show List.Nodup (["_law_here","_law_many_in","_law_part"]:List Str) by decide +kernel) rfl (Or.inl rfl)) fQ))))) (fun _ _ _=>fz) (fun _ _ _=>(dv 0)) rfl nofun rfl nofun (by walk_at "cl") (cC rfl) rfl (eS trivial)) af))))
  (av (aT (i:=9) S.nd rfl (Or.inl rfl) (az (aa (dv 14) (aa (dg ah (MY rfl rfl T.QF (aa (dv 13) af))) (aa (az (aa (aA (cf (aa aw (aa aw af))) (qH (dv 8) ah)) (aa (dv 12) af))) af)))))))))))))))
  (aj (bY (DW.dt (kj (aZ lM eT (aA (dv 9) ah) ah (aM _)) (lZ (aZ lM eT (aA (dv 9) ah) ah (aM _))))) (av (aJ (dv 7))) br)
  (aj (fA (xr (dv 3) (dv 9)))
  (av (bY (DW.dt (jF (aZ (bU hr.units) bI (cH rfl T.dD (aa (dv 3) af)) ah (aM _)) (iF (aZ (bU hr.units) bI (ak aq (hr.mono ⋯) rfl T.aP T.aQ T.aO (aa (dv 0) (aa ah af))) ah (aM _))))) (av (aJ (aA (dv 9) ah))) br))))))))
  (av (aJ (aA (aA (dv 3) ah) ah)))))),fun ds U Qd h=>JF h⟩)
theorem Dk:aN ["_law_bag_here","_law_thing"] ["_law_bag_here"] (aC gk):=by walk_at "s"
theorem C0(T:TX e)(bW:nX e)(mq:rH e):vt e:=by
 have S:=Dk
 exact T.Fz.okD S (fun ds U Q h=>Jb h) (fun cdv A outer s H E hr=>⟨oZ,(aj (aT (i:=1) S.nd rfl (Or.inl rfl) (ak bW (hr.mono ⋯) rfl T.yE T.yh T.yI (aa (dv 0) af)))
  (av (aJ (aA (cf (aa (dv 1) (aa IB af))) (nW rfl T.xZ (aa (ak mq (hr.mono ⋯) rfl T.BU T.BI T.By (aa (dv 1) af)) af)))))),fun ds U Qd h=>C4 h⟩)
theorem Tv:aN ["x","y"] ["x","y"] (aC BB):=by walk_at "s"
theorem gM(T:TX e)(cx:pT e):Jj e:=by
 have S:=Tv
 exact T.Vm.okD S (fun ds U Q h=>E9 h) (fun cdv A outer s H E hr=>⟨Ia,(av (aJ (ak cx (hr.mono ⋯) rfl T.AR T.AD T.zY (aa (dg (bH (aA (dv 0) ah) (aA (dv 1) ah)) (bH (aA (dv 1) ah) (aA (dv 0) ah))) (aa (dg (bH (aA (dv 0) ah) (aA (dv 1) ah)) (bH (aA (dv 1) ah) (aA (dv 0) ah))) (aa (bH (aA (dv 0) ah) (aA (dv 1) ah)) af)))))),fun ds U Qd h=>Oc h⟩)
theorem Qq:aN ["d","x","y"] ["d","x","y"] (aC xA):=by walk_at "s"
theorem eR(T:TX e)(cx:pT e):FV e:=by
 have S:=Qq
 exact T.Su.okD S (fun ds U Q h=>Cw h) (fun cdv A outer s H E hr=>⟨Ep,(av (aJ (ak cx (hr.mono ⋯) rfl T.AR T.AD T.zY (aa (dg (bH (aA (dv 1) ah) (aA (dv 2) ah)) (bH (bH (dv 0) (aA (dv 1) ah)) (aA (dv 2) ah))) (aa (dg (bH (aA (dv 1) ah) (aA (dv 2) ah)) (bH (aA (dv 1) ah) (aA (dv 2) ah))) (aa (bH (aA (dv 1) ah) (aA (dv 2) ah)) af)))))),fun ds U Qd h=>Lz h⟩)
theorem LN:aN ["d","x","norm"] ["d","x"] (aC mn):=by walk_at "s"
theorem j0(T:TX e)(cx:pT e):vW e:=by
 have S:=LN
 exact T.MA.okD S (fun ds U Q h=>vF h) (fun cdv A outer s H E hr=>⟨wm,(aj (aT (i:=2) S.nd rfl (Or.inl rfl) (hU (bH (aA (dv 1) ah) (aA (dv 1) ah)) (bH (bH (dv 0) (aA (dv 1) ah)) (aA (dv 1) ah))))
  (av (aJ (ak cx (hr.mono ⋯) rfl T.AR T.AD T.zY (aa (bH (aA (dv 1) ah) (aA (dv 1) ah)) (aa (bH (pY (aA (dv 1) ah)) (aA (dv 1) ah)) (aa (dv 2) af))))))),fun ds U Qd h=>Kw h⟩)
theorem yN:aN ["d","thing"] ["d","thing"] (aC dX):=by walk_at "s"
theorem yQ(T:TX e)(il:uK e)(B8:Ee e):gL e:=by
 have S:=yN
 exact T.zp.okD S (fun ds U Q h=>Js h) (fun cdv A outer s H E hr=>⟨jE,(av (aJ (iY (ak il (hr.mono ⋯) rfl T.vR T.wb T.w4 (aa (dv 1) af)) (oX (fN (bU hr.units) bI (ak B8 (hr.mono ⋯) rfl T.PH T.PJ T.OT (aa (dv 0) (aa (dv 1) af))) ah (aM _)))))),fun ds U Qd h=>x9 h⟩)
theorem M9:aN ["thing","many","waiting","counted","plan","depth","part"] ["thing","many"] (aC pW):=by walk_at "s"
theorem M7(T:TX e)(ze:Cm e)(bc:jK e):zg e:=by
 have S:=M9
 exact T.Pt.okD S (fun ds U Q h=>Ga h) (fun cdv A outer s H E hr=>⟨yy,(aj (aT (i:=2) S.nd rfl (Or.inl rfl) (DD (aa (az (aa (dv 0) (aa ah af))) af)))
  (aj (aT (i:=3) S.nd rfl (Or.inl rfl) ah)
  (aj (FX PassesOwn.never (SF (dv 2)) (aj (rL (VH (dv 2)) (iR (n:=2) rfl (bD (aV (i:=4) S.nd rfl (Or.inl rfl)) (bD (aV (i:=5) S.nd rfl (Or.inl rfl)) fQ))))
  (aj (UL (i:=3) S.nd rfl (Or.inl rfl) ah)
  (aj (bY (DW.dt (kj (aZ lM eT (dv 3) (uA (u:=.int 60) rfl T.IE ⟨_,rfl⟩ (fun _ _ _=>Rp.int 60)) (aM _)) (kj (aZ lM eT (dv 5) (uA (u:=.int 12) rfl T.GO ⟨_,rfl⟩ (fun _ _ _=>Rp.int 12)) (aM _)) (lZ (fW (cO (ak ze (hr.mono ⋯) rfl T.Mi T.M0 T.Nn (aa (dv 4) (aa (dv 1) af))))))))) (av (aJ kM)) br)
  (av (wI PassesOwn.never rfl (fS (ak bc (hr.mono ⋯) rfl T.yA T.ya T.yP (aa (dv 4) af))) (aV (i:=6) S.nd rfl (Or.inl rfl)) (av (fA (xr (dv 2) (az (aa (dv 6) (aa (dg (dv 5) ah) af))))))))))))
  (av (aJ kM))))),fun ds U Qd h=>Nl h⟩)
theorem Gn:aN ["_law_bag_here","_law_d","_law_x","_law_sign_here"] ["_law_bag_here","_law_d"] (aC iw):=by walk_at "s"
theorem GA(T:TX e)(rO:wA e)(jY:uI e)(aq:cj e)(cY:jc e):rR e:=by
 have S:=Gn
 exact T.Jw.okD S (fun ds U Q h=>IS h) (fun cdv A outer s H E hr=>⟨rT,(aj (aT (i:=2) S.nd rfl (Or.inl rfl) (ak rO (hr.mono ⋯) rfl T.Gk T.GW T.Gh (aa (dv 0) af)))
  (aj (aT (i:=3) S.nd rfl (Or.inl rfl) (ak jY (hr.mono ⋯) rfl T.CA T.CK T.CJ (aa (dv 1) (aa (dv 2) af))))
  (aj (bY (aZ (bU hr.units) bI (dv 3) ah (aM _)) (av (aJ (az (aa (dg ah (ak aq (hr.mono ⋯) rfl T.aP T.aQ T.aO (aa (dv 0) (aa ah af)))) (aa ah (aa ah af)))))) br)
  (av (aJ (E6 (aZ lM eT (dv 3) ah (aM _)) (dv 2) (ak cY (hr.mono ⋯) rfl T.pK T.pG T.pF (aa (dv 2) af)))))))),fun ds U Qd h=>Gu h⟩)
theorem LQ:aN ["_law_some","_law_found","_law_one"] ["_law_some"] (aC lR):=by walk_at "s"
theorem Lb(T:TX e)(ie:uj e):wz e:=by
 have S:=LQ
 exact T.Nz.okD S (fun ds U Q h=>Hm h) (fun cdv A outer s H E hr=>⟨Cv,(aj (aT (i:=1) S.nd rfl (Or.inl rfl) (az (aa ah (aa ah (aa ah af)))))
  (aj (wI PassesOwn.never rfl (fS (dv 0)) (aV (i:=2) S.nd rfl (Or.inl rfl)) (av (aT (i:=1) S.nd rfl (Or.inl rfl) (ak ie (hr.mono ⋯) rfl T.wJ T.vV T.vU (aa (dv 1) (aa (dv 2) af))))))
  (av (aJ (dv 1))))),fun ds U Qd h=>KI h⟩)
theorem Dc:aN ["_law_bag_here","_law_d","_law_x","_law_wide"] ["_law_bag_here","_law_d","_law_x"] (aC gr):=by walk_at "s"
theorem CT(T:TX e)(aq:cj e)(bG:ja e)(aU:dO e):vf e:=by
 have S:=Dc
 exact T.ED.okD S (fun ds U Q h=>HC h) (fun cdv A outer s H E hr=>⟨oM,(aj (aT (i:=3) S.nd rfl (Or.inl rfl) (aA (cf (aa ah (aa ah (aa ah (aa ah (aa (Cd ah ah) af)))))) (ak aq (hr.mono ⋯) rfl T.aP T.aQ T.aO (aa (dv 0) (aa ah af)))))
  (av (aJ (ak bG (hr.mono ⋯) rfl T.uG T.ue T.uV (aa (dv 1) (aa (dv 2) (aa (ak aU (hr.mono ⋯) rfl T.gA T.gF T.gw (aa (ak aq (hr.mono ⋯) rfl T.aP T.aQ T.aO (aa (dv 0) (aa (dv 3) af))) (aa ah (aa (dv 3) af)))) af))))))),fun ds U Qd h=>Dj h⟩)
theorem jQ:aN ["d","thing"] ["d","thing"] (aC cM):=by walk_at "s"
theorem j7(T:TX e)(cJ:gL e):fb e:=by
 have S:=jQ
 exact T.kP.okX S (fun ds U Xk h=>EK h) (fun cdv A outer s H E hr=>⟨dh,(df (JW (fW (cO (ak cJ (hr.mono ⋯) rfl T.ka T.lr T.kW (aa (dv 0) (aa (dv 1) af))))) (df (wU gH rfl T.nk T.yq)) sZ)),fun ds U Xk h=>j6 h⟩)
theorem sR(T:TX e)(cJ:gL e):jT e:=by
 have S:=jQ
 exact T.kP.okD S (fun ds U Q h=>CW h) (fun cdv A outer s H E hr=>⟨fU,(av (bY (fW (cO (ak cJ (hr.mono ⋯) rfl T.ka T.lr T.kW (aa (dv 0) (aa (dv 1) af))))) (av AO) br)),fun ds U Qd h=>tM h⟩)
theorem IZ:aN ["tile","x","y","width","height"] ["tile"] (aC jX):=by walk_at "s"
theorem JI(T:TX e)(yz:Jj e):Ax e:=by
 have S:=IZ
 exact T.KW.okD S (fun ds U Q h=>HG h) (fun cdv A outer s H E hr=>⟨uE,(aj (rL (dv 0) (iR (n:=4) rfl (bD (aV (i:=1) S.nd rfl (Or.inl rfl)) (bD (aV (i:=2) S.nd rfl (Or.inl rfl)) (bD (aV (i:=3) S.nd rfl (Or.inl rfl)) (bD (aV (i:=4) S.nd rfl (Or.inl rfl)) fQ))))))
  (av (aJ (az (aa (dv 1) (aa (ak yz (hr.mono ⋯) rfl T.MI T.Mz T.Nc (aa (dv 1) (aa (dv 3) af))) (aa (dv 2) (aa (ak yz (hr.mono ⋯) rfl T.MI T.Mz T.Nc (aa (dv 2) (aa (dv 4) af))) af)))))))),fun ds U Qd h=>IV h⟩)
theorem LL:aN ["d","thing"] ["d","thing"] (aC lX):=by walk_at "s"
theorem Ks(T:TX e)(cJ:gL e):wD e:=by
 have S:=LL
 exact T.M1.okD S (fun ds U Q h=>IG h) (fun cdv A outer s H E hr=>⟨vN,(aj (bY (DW.dt (kj (fW (cO (p4 (kit_tuple _) rfl T.ao rfl T.nL PyProof.Rows.Boot.«tuple» (dv 1)))) (kj (aZ tK eT (cH rfl T.dD (aa (dv 1) af)) ah (aM _)) (lZ (aZ lM eT (cH rfl T.dD (aa (dv 1) af)) (uA (u:=.int 3) rfl T.Jd ⟨_,rfl⟩ (fun _ _ _=>Rp.int 3)) (aM _)))))) (av (aJ kM)) br)
  (av (aJ (Iu rfl rfl T.N0 (aa (Jk (N':=["kind","d"]) (cap:=[none,some 0]) rfl (DV (dv 1)) (fun _ _ _=>(aV (i:=0) (show List.Nodup (["kind","d"]:List Str) by decide +kernel) rfl (Or.inl rfl))) (fun _ _ _=>fz) (fun _ _ _=>(ak cJ (hr.mono ⋯) rfl T.ka T.lr T.kW (aa (dv 1) (aa (dv 0) af)))) rfl nofun rfl nofun (by walk_at "cl") (cC rfl) rfl (eS ⟨BP,trivial⟩)) af))))),fun ds U Qd h=>KU h⟩)
theorem vg:aN ["thing","many"] ["thing","many"] (aC gj):=by walk_at "s"
theorem tN(T:TX e)(pP:zg e):de e:=by
 have S:=vg
 exact T.xa.okX S (fun ds U Xk h=>A5 h) (fun cdv A outer s H E hr=>⟨fY,(df (JW (fW (cO (ak pP (hr.mono ⋯) rfl T.Hq T.Hw T.G2 (aa (dv 0) (aa (dv 1) af))))) (df (wU gH rfl T.sY T.Ef)) sZ)),fun ds U Xk h=>sj h⟩)
theorem C3(T:TX e)(pP:zg e):gP e:=by
 have S:=vg
 exact T.xa.okD S (fun ds U Q h=>Em h) (fun cdv A outer s H E hr=>⟨oF,(av (bY (fW (cO (ak pP (hr.mono ⋯) rfl T.Hq T.Hw T.G2 (aa (dv 0) (aa (dv 1) af))))) (av AO) br)),fun ds U Qd h=>C2 h⟩)
theorem Py:aN ["shapes","total","shape"] ["shapes"] (aC tf):=by walk_at "s"
theorem OK(T:TX e)(yz:Jj e):B4 e:=by
 have S:=Py
 exact T.Rn.okD S (fun ds U Q h=>Hm h) (fun cdv A outer s H E hr=>⟨BJ,(aj (aT (i:=1) S.nd rfl (Or.inl rfl) (AM rfl T.DJ))
  (aj (wI PassesOwn.never rfl (fS (dv 0)) (aV (i:=2) S.nd rfl (Or.inl rfl)) (av (aT (i:=1) S.nd rfl (Or.inl rfl) (ak yz (hr.mono ⋯) rfl T.MI T.Mz T.Nc (aa (dv 1) (aa (dv 2) af))))))
  (av (aJ (dv 1))))),fun ds U Qd h=>Hr h⟩)
theorem GH:aN ["_law_bag_here","_law_d","_law_found","_law_turn","_law_way","_law_part","_law_kind"] ["_law_bag_here","_law_d"] (aC iH):=by walk_at "s"
theorem GF(T:TX e)(gI:rR e)(aq:cj e)(bg:iI e)(bG:ja e)(aU:dO e):xW e:=by
 have S:=GH
 exact T.Jn.okD S (fun ds U Q h=>HR h) (fun cdv A outer s H E hr=>⟨rV,(aj (aT (i:=2) S.nd rfl (Or.inl rfl) (DD (aa (ak gI (hr.mono ⋯) rfl T.u9 T.ub T.tY (aa (dv 0) (aa (dv 1) af))) af)))
  (aj (wI PassesOwn.never rfl (xB rfl T.uF (aa (ak aq (hr.mono ⋯) rfl T.aP T.aQ T.aO (aa (dv 0) (aa ah af))) af)) (aV (i:=3) S.nd rfl (Or.inl rfl)) (aj (aT (i:=4) S.nd rfl (Or.inl rfl) (ak aq (hr.mono ⋯) rfl T.aP T.aQ T.aO (aa (dv 0) (aa ah af))))
  (aj (aT (i:=5) S.nd rfl (Or.inl rfl) (az (aa (dg ah (ak aq (hr.mono ⋯) rfl T.aP T.aQ T.aO (aa (dv 0) (aa ah af)))) (aa ah (aa (dg ah (ak aq (hr.mono ⋯) rfl T.aP T.aQ T.aO (aa (dv 0) (aa ah af)))) af)))))
  (aj (aT (i:=6) S.nd rfl (Or.inl rfl) (aA (cf (aa (aA (dv 2) ah) (aa (ak bg (hr.mono ⋯) rfl T.jg T.jl T.jk (aa (dv 1) (aa (aA (dv 2) ah) af))) af))) (qH (dv 4) ah)))
  (aj (bY (aZ lM eT (dv 4) ah (aM _)) (av (aT (i:=6) S.nd rfl (Or.inl rfl) (ak gI (hr.mono ⋯) rfl T.u9 T.ub T.tY (aa (dv 0) (aa (dv 1) af))))) (av (bY (aZ lM eT (dv 4) ah (aM _)) (av (aT (i:=6) S.nd rfl (Or.inl rfl) (ak bG (hr.mono ⋯) rfl T.uG T.ue T.uV (aa (dv 1) (aa (dv 6) (aa (ak aU (hr.mono ⋯) rfl T.gA T.gF T.gw (aa (aA (dv 5) ah) (aa (aA (dv 5) ah) (aa (aA (dv 5) ah) af)))) af)))))) br)))
  (av (fA (xr (dv 2) (dv 6)))))))))
  (av (aJ (Fo rfl T.nL (aa (dv 2) af)))))),fun ds U Qd h=>Gg h⟩)
theorem zF:aN ["_law_bag_here","_law_d","_law_x","_law_some"] ["_law_bag_here","_law_d"] (aC eE):=by walk_at "s"
theorem zZ(T:TX e)(gI:rR e)(bW:nX e)(cY:jc e)(aq:cj e):kL e:=by
 have S:=zF
 exact T.B5.okD S (fun ds U Q h=>FN h) (fun cdv A outer s H E hr=>⟨lD,(aj (aT (i:=2) S.nd rfl (Or.inl rfl) (ak gI (hr.mono ⋯) rfl T.u9 T.ub T.tY (aa (dv 0) (aa (dv 1) af))))
  (aj (aT (i:=3) S.nd rfl (Or.inl rfl) (cf (aa (ak bW (hr.mono ⋯) rfl T.yE T.yh T.yI (aa (dv 0) af)) (aa (ak cY (hr.mono ⋯) rfl T.pK T.pG T.pF (aa (dv 2) af)) (aa (az (aa ah (aa ah (aa ah af)))) (aa (az (aa (bH (aA (dv 2) ah) ah) (aa (bH (aA (dv 2) ah) ah) (aa (bH (aA (dv 2) ah) ah) af)))) (aa (az (aa (aA (dv 2) ah) (aa (aA (dv 2) ah) (aa (hU ah (aA (dv 2) ah)) af)))) (aa (xt rfl T.BY (aa (dv 2) af)) (aa (i9 (dv 2) pH (kK ah)) (aa (fH (dv 2) (az (aa ah af))) (aa (az (aa (aA (dv 2) ah) (aa IB (aa (aA (dv 2) ah) af)))) (aa (az (aa kM (aa ah (aa ah af)))) (aa (az (aa ah (aa ah (aa kM af)))) (aa (az (aa (dv 2) af)) af))))))))))))))
  (av (aJ (aA (dv 3) (ak aq (hr.mono ⋯) rfl T.aP T.aQ T.aO (aa (dv 0) (aa ah af)))))))),fun ds U Qd h=>zX h⟩)
theorem B9:aN ["_law_bag_here","_law_d","_law_end","_law_x","_law_below","_law_some"] ["_law_bag_here","_law_d","_law_end"] (aC fk):=by walk_at "s"
theorem A4(T:TX e)(qg:vf e)(cY:jc e)(ie:uj e)(aU:dO e)(qa:vt e)(aq:cj e):sH e:=by
 have S:=B9
 exact T.Di.okD S (fun ds U Q h=>GG h) (fun cdv A outer s H E hr=>⟨mI,(aj (aT (i:=3) S.nd rfl (Or.inl rfl) (ak qg (hr.mono ⋯) rfl T.EJ T.EZ T.Fh (aa (dv 0) (aa (dv 1) (aa (dv 2) af)))))
  (aj (aT (i:=4) S.nd rfl (Or.inl rfl) (ak cY (hr.mono ⋯) rfl T.pK T.pG T.pF (aa (ak ie (hr.mono ⋯) rfl T.wJ T.vV T.vU (aa (dv 3) (aa (ak aU (hr.mono ⋯) rfl T.gA T.gF T.gw (aa ah (aa ah (aa (Cd ah ah) af)))) af))) af)))
  (aj (aT (i:=5) S.nd rfl (Or.inl rfl) (cf (aa (dv 2) (aa (ak ie (hr.mono ⋯) rfl T.wJ T.vV T.vU (aa (dv 2) (aa (dv 3) af))) (aa (dv 4) (aa (xt rfl T.BY (aa (dv 3) af)) (aa (i9 (dv 3) pH (kK ah)) (aa (fH (dv 3) (az (aa ah af))) (aa (az (aa (bH (aA (dv 3) ah) ah) (aa (bH (aA (dv 3) ah) ah) (aa (bH (aA (dv 3) ah) ah) af)))) (aa (ak qa (hr.mono ⋯) rfl T.FY T.En T.ES (aa (dv 0) af)) af))))))))))
  (av (aJ (aA (dv 5) (ak aq (hr.mono ⋯) rfl T.aP T.aQ T.aO (aa (dv 0) (aa ah af))))))))),fun ds U Qd h=>BL h⟩)
theorem sQ:aN ["d","thing"] ["d","thing"] (aC fv):=by walk_at "s"
theorem qM(T:TX e)(nG:wD e):cQ e:=by
 have S:=sQ
 exact T.vh.okX S (fun ds U Xk h=>Gi h) (fun cdv A outer s H E hr=>⟨fg,(df (JW (fW (cO (ak nG (hr.mono ⋯) rfl T.Fu T.EG T.Ed (aa (dv 0) (aa (dv 1) af))))) (df (wU gH rfl T.pM T.Br)) sZ)),fun ds U Xk h=>qN h⟩)
theorem Bp(T:TX e)(nG:wD e):cN e:=by
 have S:=sQ
 exact T.vh.okD S (fun ds U Q h=>CV h) (fun cdv A outer s H E hr=>⟨mr,(av (bY (fW (cO (ak nG (hr.mono ⋯) rfl T.Fu T.EG T.Ed (aa (dv 0) (aa (dv 1) af))))) (av AO) br)),fun ds U Qd h=>BN h⟩)
theorem Io:aN ["d","box","x","y","left","right","bottom","top"] ["d","box","x","y"] (aC jR):=by walk_at "s"
theorem HV(T:TX e)(xf:Ax e)(mU:Ci e):AV e:=by
 have S:=Io
 exact T.JV.okD S (fun ds U Q h=>JC h) (fun cdv A outer s H E hr=>⟨uH,(aj (rL (ak xf (hr.mono ⋯) rfl T.Lp T.LR T.KA (aa (dv 1) af)) (iR (n:=4) rfl (bD (aV (i:=4) S.nd rfl (Or.inl rfl)) (bD (aV (i:=5) S.nd rfl (Or.inl rfl)) (bD (aV (i:=6) S.nd rfl (Or.inl rfl)) (bD (aV (i:=7) S.nd rfl (Or.inl rfl)) fQ))))))
  (aj (bY (DW.dt (kj (cO (ak mU (hr.mono ⋯) rfl T.tU T.tZ T.ur (aa (dv 0) (aa (dv 4) (aa (dv 2) af))))) (lZ (cO (ak mU (hr.mono ⋯) rfl T.tU T.tZ T.ur (aa (dv 0) (aa (dv 6) (aa (dv 3) af)))))))) (av (aJ kM)) br)
  (av (aJ (iY (ak mU (hr.mono ⋯) rfl T.tU T.tZ T.ur (aa (dv 0) (aa (dv 5) (aa (dv 2) af)))) (oX (ak mU (hr.mono ⋯) rfl T.tU T.tZ T.ur (aa (dv 0) (aa (dv 7) (aa (dv 3) af)))))))))),fun ds U Qd h=>HJ h⟩)
theorem Ai:aN ["_law_bag_here","_law_d","_law_kinds_here","_law_at","_law_way"] ["_law_bag_here","_law_d","_law_kinds_here"] (aC eC):=by walk_at "s"
theorem Aq(T:TX e)(aq:cj e)(ey:kL e):rp e:=by
 have S:=Ai
 exact T.Bf.okD S (fun ds U Q h=>FD h) (fun cdv A outer s H E hr=>⟨kF,(aj (aT (i:=3) S.nd rfl (Or.inl rfl) (ak aq (hr.mono ⋯) rfl T.aP T.aQ T.aO (aa (dv 0) (aa (cH rfl T.dD (aa (dv 2) af)) af))))
  (aj (aT (i:=4) S.nd rfl (Or.inl rfl) (ak aq (hr.mono ⋯) rfl T.aP T.aQ T.aO (aa (dv 0) (aa ah af))))
  (aj (bY (aZ tK eT (dv 4) ah (aM _)) (av (aJ (fH (fH (i9 (dv 2) pH (kK (dv 3))) (az (aa (ak ey (hr.mono ⋯) rfl T.sV T.sf T.su (aa (dv 0) (aa (dv 1) af))) af))) (i9 (dv 2) (kK (fH (dv 3) ah)) pH)))) br)
  (av (aJ (aA (cf (aa (az af) (aa (i9 (fH (fH (fH (dv 2) (dv 2)) (dv 2)) (dv 2)) pH (kK (fH ah (dv 3)))) (aa (xt rfl T.BY (aa (dv 2) af)) af)))) (hU (dv 4) ah))))))),fun ds U Qd h=>zR h⟩)
theorem xX:aN ["d","kinds","plan"] ["d","kinds","plan"] (aC ir):=by walk_at "s"
theorem tX(T:TX e)(bq:cQ e):km e:=by
 have S:=xX
 exact T.zA.okX S (fun ds U Xk h=>FO h) (fun cdv A outer s H E hr=>⟨gB,(df (nO (cK bq (hr.mono ⋯) rfl T.cq T.ck T.cm gH (aa (dv 0) (aa (dv 1) af))))),fun ds U Xk h=>uf h⟩)
theorem vA(T:TX e)(aW:cN e)(bB:de e):lG e:=by
 have S:=xX
 exact T.zA.okX S (fun ds U Xk h=>Fs h) (fun cdv A outer s H E hr=>⟨gX,(gR (fA (ak aW (hr.mono ⋯) rfl T.cq T.ck T.cm (aa (dv 0) (aa (dv 1) af))))
  (df (nO (cK bB (hr.mono ⋯) rfl T.dR T.dP T.dU gH (aa (dv 2) (aa (cH rfl T.dD (aa (dv 1) af)) af)))))),fun ds U Xk h=>vy h⟩)
theorem C9:aN ["d","shape","x","y"] ["d","shape","x","y"] (aC fZ):=by walk_at "s"
theorem sP(T:TX e)(il:uK e)(xi:AV e):jW e:=by
 have S:=C9
 exact T.Fb.okX S (fun ds U Xk h=>Jv h) (fun cdv A outer s H E hr=>⟨gq,(df (JW (DW.dt (kj (fW (cO (ak il (hr.mono ⋯) rfl T.vR T.wb T.w4 (aa (dv 2) af)))) (kj (fW (cO (ak il (hr.mono ⋯) rfl T.vR T.wb T.w4 (aa (dv 3) af)))) (lZ (fW (cO (ak xi (hr.mono ⋯) rfl T.Ka T.Lw T.Li (aa (dv 0) (aa (az (aa (AM rfl T.DJ) (aa (AM rfl T.DJ) (aa (AM rfl T.W7) (aa (dv 1) af))))) (aa (dv 2) (aa (dv 3) af))))))))))) (df (wU gH rfl T.sO T.E8)) sZ)),fun ds U Xk h=>tG h⟩)
theorem KO:aN ["plan","word","inner"] ["plan"] (aC mi):=by walk_at "s"
theorem GI:bO e.P e.w e.K e.mg e.base CX0 2 e.t.ib e.t.jq ["plan"] (spD e.K (kv 0)):=
 ⟨fun vs H Q E h=>by obtain⟨ds,U,Qd,_,r,z,_⟩:=h;exact (LM z).elim,fun A outer s H args us vs Q E hr e0 hb hv h=>by obtain⟨ds,U,Qd,_,r,z,_⟩:=h;exact (LM z).elim⟩
theorem cE(T:TX e)(n k:Nat)(hk:2<=k)(bc:jK e)(qE:bO e.P e.w e.K e.mg e.base CX0 k e.t.ib e.t.jq ["plan"] (spD e.K (kv n))):bO e.P e.w e.K e.mg e.base CX0 (k+1) e.t.ib e.t.jq ["plan"] (spD e.K (kv (n+1))):=by
 have S:=KO
 exact T.MH.okD S (fun ds U Q h=>Kd h) (fun cdv A outer s H E hr=>⟨vE n,(aj (aT (i:=1) S.nd rfl (Or.inl rfl) (aA (dv 0) ah))
  (aj (bY (aZ (bU hr.units) bI (dv 1) aw (aM _)) (av (aJ ah)) br)
  (aj (aT (i:=2) S.nd rfl (Or.inl rfl) (MY rfl rfl T.QF (aa (tO (N':=["part"]) (cap:=[none]) rfl (fS (ak bc (hr.mono ∅) rfl T.yA T.ya T.yP (aa (dv 0) af))) (fun _ _ _=>(aV (i:=0) (show List.Nodup (["part"]:List Str) by decide +kernel) rfl (Or.inl rfl))) (fun _ _ _=>fz) (fun _ _ _=>(ak qE (hr.mono ∅) rfl T.FF T.Ft T.DR (aa (dv 0) af))) rfl nofun rfl nofun (by walk_at "cl") (cC rfl) rfl (eS trivial)) af)))
  (av (aJ (E6 (aZ (bU hr.units) bI (dv 1) aw (aM _)) (bH (bH (aA (dv 0) ah) (aA (dv 0) ah)) (dv 2)) (dv 2))))))),fun ds U Qd h=>Kv n h⟩)
theorem Kt(T:TX e)(bc:jK e):bO e.P e.w e.K e.mg e.base CX0 15 e.t.ib e.t.jq ["plan"] (spD e.K (kv 13)):=(cE T 12 14 ⋯ bc (cE T 11 13 ⋯ bc (cE T 10 12 ⋯ bc (cE T 9 11 ⋯ bc (cE T 8 10 ⋯ bc (cE T 7 9 ⋯ bc (cE T 6 8 ⋯ bc (cE T 5 7 ⋯ bc (cE T 4 6 ⋯ bc (cE T 3 5 ⋯ bc (cE T 2 4 ⋯ bc (cE T 1 3 ⋯ bc (cE T 0 2 ⋯ bc GI)))))))))))))
theorem zx:aN ["_law_bag_here","_law_plan_here","_law_many","_law_odd_here","_law_way","_law_at","_law_small"] ["_law_bag_here","_law_plan_here","_law_many"] (aC eG):=by walk_at "s"
theorem xS:bO e.P e.w e.K e.mg e.base CX0 3 e.t.da e.t.dH ["_law_bag_here","_law_plan_here","_law_many"] (spD e.K (hE 0)):=
 ⟨fun vs H Q E h=>by obtain⟨ds,U,Qd,_,r,z,_⟩:=h;exact (JY z).elim,fun A outer s H args us vs Q E hr e0 hb hv h=>by obtain⟨ds,U,Qd,_,r,z,_⟩:=h;exact (JY z).elim⟩
theorem bK(T:TX e)(n k:Nat)(hk:3<=k)(bW:nX e)(aq:cj e)(bT:o7 e)(eK:bO e.P e.w e.K e.mg e.base CX0 k e.t.da e.t.dH ["_law_bag_here","_law_plan_here","_law_many"] (spD e.K (hE n))):bO e.P e.w e.K e.mg e.base CX0 (k+1) e.t.da e.t.dH ["_law_bag_here","_law_plan_here","_law_many"] (spD e.K (hE (n+1))):=by
 have S:=zx
 exact T.BW.okD S (fun ds U Q h=>Ki h) (fun cdv A outer s H E hr=>⟨lB n,(aj (aT (i:=3) S.nd rfl (Or.inl rfl) (ak bW (hr.mono ∅) rfl T.yE T.yh T.yI (aa (dv 0) af)))
  (aj (aT (i:=4) S.nd rfl (Or.inl rfl) (ak aq (hr.mono ∅) rfl T.aP T.aQ T.aO (aa (dv 0) (aa ah af))))
  (aj (bY (DW.dt (jF (aZ (yc hr.units) bI (aA (dv 1) ah) aw (aM _)) (iF (aZ tK eT (dv 4) ah (aM _))))) (aj (bY (aZ (PV hr.units) Nk (aA (dv 1) ah) (cf (aa aw (aa aw af))) (by with_unfolding_all rfl)) (aj (aT (i:=5) S.nd rfl (Or.inl rfl) (ak aq (hr.mono ∅) rfl T.aP T.aQ T.aO (aa (dv 0) (aa (cH rfl T.dD (aa (aA (dv 1) ah) af)) af))))
  (av (aJ (az (aa (aA (dv 1) ah) (aa (ak bT (hr.mono ∅) rfl T.Fd T.Eh T.Fn (aa (aA (dv 1) ah) (aa (dv 5) (aa (ak eK (hr.mono ∅) rfl T.mG T.mO T.mB (aa (dv 0) (aa (aA (aA (dv 1) ah) (dv 5)) (aa (dv 2) af)))) af)))) af)))))) br)
  (av (aJ (fH (i9 (dv 1) pH (kK (pY ah))) (az (aa (ak eK (hr.mono ∅) rfl T.mG T.mO T.mB (aa (dv 0) (aa (aA (dv 1) (pY ah)) (aa (dv 2) af)))) af)))))) br)
  (aj (aT (i:=6) S.nd rfl (Or.inl rfl) (cf (aa (az (aa aw (aa (dv 2) af))) (aa (az (aa aw (aa (pY ah) af))) (aa (az (aa aw (aa kM af))) (aa (az (aa aw af)) (aa (az (aa aw (aa ah (aa ah af)))) (aa (cf (aa aw (aa ah af))) (aa (az (aa aw (aa (dv 3) af))) (aa (dv 3) (aa (az (aa aw (aa (dv 1) (aa (dv 1) af)))) (aa (az (aa aw (aa (az (aa (dv 1) af)) af))) (aa (az (aa aw (aa (Se (az (aa (az (aa aw (aa ah af))) af)) ah) af))) (aa (az (aa aw (aa (cf (aa (dv 1) (aa (dv 1) af))) af))) (aa (az (aa aw (aa (az af) af))) (aa (az (aa aw (aa (dv 1) af))) (aa (az (aa aw (aa ah (aa ah (aa (dv 1) af))))) (aa (az (aa aw (aa ah (aa (dv 3) (aa (dv 1) af))))) (aa (az (aa aw (aa kM (aa ah (aa (dv 1) af))))) (aa (az (aa aw (aa ah (aa (dv 1) af)))) (aa (az (aa aw (aa ah (aa ah (aa ah (aa (dv 1) af)))))) (aa (az (aa aw (aa (dv 1) af))) (aa (az (aa aw (aa (dv 1) (aa (dv 1) af)))) (aa (az (aa aw (aa (az (aa (dv 1) (aa (dv 1) af))) af))) (aa (fH (dv 1) (az (aa (dv 3) af))) (aa (xt rfl T.BY (aa (dv 1) af)) (aa (fH (az (aa (dv 3) af)) (i9 (dv 1) (kK ah) pH)) (aa (az (aa aw (aa (az (aa (dv 1) (aa (dv 3) af))) af))) af))))))))))))))))))))))))))))
  (av (aJ (aA (dv 6) (ak aq (hr.mono ∅) rfl T.aP T.aQ T.aO (aa (dv 0) (aa ah af)))))))))),fun ds U Qd h=>zK n h⟩)
theorem Am(T:TX e)(bW:nX e)(aq:cj e)(bT:o7 e):bO e.P e.w e.K e.mg e.base CX0 15 e.t.da e.t.dH ["_law_bag_here","_law_plan_here","_law_many"] (spD e.K (hE 12)):=(bK T 11 14 ⋯ bW aq bT (bK T 10 13 ⋯ bW aq bT (bK T 9 12 ⋯ bW aq bT (bK T 8 11 ⋯ bW aq bT (bK T 7 10 ⋯ bW aq bT (bK T 6 9 ⋯ bW aq bT (bK T 5 8 ⋯ bW aq bT (bK T 4 7 ⋯ bW aq bT (bK T 3 6 ⋯ bW aq bT (bK T 2 5 ⋯ bW aq bT (bK T 1 4 ⋯ bW aq bT (bK T 0 3 ⋯ bW aq bT xS))))))))))))
theorem rh:aN ["d","kinds","plan","width","height","tiles"] ["d","kinds","plan","width"] (aC nA):=by walk_at "s"
theorem wF(T:TX e)(bq:cQ e):nV e:=by
 have S:=rh
 exact T.uq.okX S (fun ds U Xk h=>Nh h) (fun cdv A outer s H E hr=>⟨ip,(df (nO (cK bq (hr.mono ⋯) rfl T.cq T.ck T.cm gH (aa (dv 0) (aa (dv 1) af))))),fun ds U Xk h=>wW h⟩)
theorem xE(T:TX e)(aW:cN e)(bB:de e):pj e:=by
 have S:=rh
 exact T.uq.okX S (fun ds U Xk h=>NJ h) (fun cdv A outer s H E hr=>⟨i6,(gR (fA (ak aW (hr.mono ⋯) rfl T.cq T.ck T.cm (aa (dv 0) (aa (dv 1) af))))
  (df (nO (cK bB (hr.mono ⋯) rfl T.dR T.dP T.dU gH (aa (dv 2) (aa (cH rfl T.dD (aa (dv 1) af)) af)))))),fun ds U Xk h=>xF h⟩)
theorem vx(T:TX e)(aW:cN e)(cD:gP e)(dm:fb e):lH e:=by
 have S:=rh
 exact T.uq.okX S (fun ds U Xk h=>MJ h) (fun cdv A outer s H E hr=>⟨gZ,(gR (fA (ak aW (hr.mono ⋯) rfl T.cq T.ck T.cm (aa (dv 0) (aa (dv 1) af))))
  (gR (fA (ak cD (hr.mono ⋯) rfl T.dR T.dP T.dU (aa (dv 2) (aa (cH rfl T.dD (aa (dv 1) af)) af))))
  (df (nO (cK dm (hr.mono ⋯) rfl T.lh T.j8 T.kg gH (aa (dv 0) (aa (dv 3) af))))))),fun ds U Xk h=>vw h⟩)
theorem wq(T:TX e)(aW:cN e)(cD:gP e)(gC:jT e)(qE:Kj e):nZ e:=by
 have S:=rh
 exact T.uq.okX S (fun ds U Xk h=>MO h) (fun cdv A outer s H E hr=>⟨ik,(gR (fA (ak aW (hr.mono ⋯) rfl T.cq T.ck T.cm (aa (dv 0) (aa (dv 1) af))))
  (gR (fA (ak cD (hr.mono ⋯) rfl T.dR T.dP T.dU (aa (dv 2) (aa (cH rfl T.dD (aa (dv 1) af)) af))))
  (gR (fA (ak gC (hr.mono ⋯) rfl T.lh T.j8 T.kg (aa (dv 0) (aa (dv 3) af))))
  (df (JW (aZ lM eT (ak qE (hr.mono ⋯) rfl T.FF T.Ft T.DR (aa (dv 2) af)) (uA (u:=.int 60) rfl T.Iy ⟨_,rfl⟩ (fun _ _ _=>Rp.int 60)) (aM _)) (df (wU gH rfl T.pO T.BM)) sZ))))),fun ds U Xk h=>vS h⟩)
theorem GS:aN ["_law_d","_law_kinds_here","_law_plan_here","_law_shapes"] ["_law_d","_law_kinds_here","_law_plan_here"] (aC iC):=by walk_at "s"
theorem C5:bO e.P e.w e.K e.mg e.base CX0 5 e.t.fI e.t.gE ["_law_d","_law_kinds_here","_law_plan_here"] (spD e.K (fT 0)):=
 ⟨fun vs H Q E h=>by obtain⟨ds,U,Qd,_,r,z,_⟩:=h;exact (Hi z).elim,fun A outer s H args us vs Q E hr e0 hb hv h=>by obtain⟨ds,U,Qd,_,r,z,_⟩:=h;exact (Hi z).elim⟩
theorem bZ(T:TX e)(n k:Nat)(hk:5<=k)(bg:iI e)(bG:ja e)(aU:dO e)(cG:wz e)(dM:bO e.P e.w e.K e.mg e.base CX0 k e.t.fI e.t.gE ["_law_d","_law_kinds_here","_law_plan_here"] (spD e.K (fT n))):bO e.P e.w e.K e.mg e.base CX0 (k+1) e.t.fI e.t.gE ["_law_d","_law_kinds_here","_law_plan_here"] (spD e.K (fT (n+1))):=by
 have S:=GS
 exact T.IT.okD S (fun ds U Q h=>IX h) (fun cdv A outer s H E hr=>⟨rP n,(aj (bY (aZ (bU hr.units) bI (aA (dv 2) ah) aw (aM _)) (av (aJ (aA (dv 1) (aA (dv 2) ah)))) br)
  (aj (bY (aZ (bU hr.units) bI (aA (dv 2) ah) aw (aM _)) (av (aJ (ak bg (hr.mono ∅) rfl T.jg T.jl T.jk (aa (dv 0) (aa (ak dM (hr.mono ∅) rfl T.kE T.kh T.k6 (aa (dv 0) (aa (dv 1) (aa (aA (dv 2) ah) af)))) af))))) br)
  (aj (bY (aZ (bU hr.units) bI (aA (dv 2) ah) aw (aM _)) (av (aJ (ak bG (hr.mono ∅) rfl T.uG T.ue T.uV (aa (dv 0) (aa (ak dM (hr.mono ∅) rfl T.kE T.kh T.k6 (aa (dv 0) (aa (dv 1) (aa (aA (dv 2) ah) af)))) (aa (ak aU (hr.mono ∅) rfl T.gA T.gF T.gw (aa (aA (dv 2) ah) (aa ah (aa (aA (dv 2) ah) af)))) af)))))) br)
  (aj (nU (i:=3) (N':=["_law_part","_law_d","_law_kinds_here"]) (cap:=[none,some 0,some 1]) S.nd rfl rfl rfl (DV (aA (dv 2) ah)) (fun _ _ _=>(aV (i:=0) (show List.Nodup (["_law_part","_law_d","_law_kinds_here"]:List Str) by decide +kernel) rfl (Or.inl rfl))) (fun _ _ _=>fz) (fun _ _ _=>(ak dM (hr.mono ∅) rfl T.kE T.kh T.k6 (aa (dv 1) (aa (dv 2) (aa (dv 0) af))))) rfl nofun rfl nofun (by walk_at "cl") (cC rfl) rfl (eS ⟨BP,⟨BP,trivial⟩⟩))
  (aj (bY (aZ (bU hr.units) bI (aA (dv 2) ah) aw (aM _)) (av (aJ (ak cG (hr.mono ∅) rfl T.DM T.Fj T.DX (aa (dv 3) af)))) br)
  (av (aJ (ak bg (hr.mono ∅) rfl T.jg T.jl T.jk (aa (dv 0) (aa (ak cG (hr.mono ∅) rfl T.DM T.Fj T.DX (aa (tO (N':=["_law_shape_here","_law_d"]) (cap:=[none,some 0]) rfl (fS (dv 3)) (fun _ _ _=>(aV (i:=0) (show List.Nodup (["_law_shape_here","_law_d"]:List Str) by decide +kernel) rfl (Or.inl rfl))) (fun _ _ _=>fz) (fun _ _ _=>(ak bg (hr.mono ∅) rfl T.jg T.jl T.jk (aa (dv 1) (aa (dv 0) af)))) rfl nofun rfl nofun (by walk_at "cl") (cC rfl) rfl (eS ⟨BP,trivial⟩)) af)) af)))))))))),fun ds U Qd h=>GV n h⟩)
theorem GP(T:TX e)(bg:iI e)(bG:ja e)(aU:dO e)(cG:wz e):bO e.P e.w e.K e.mg e.base CX0 18 e.t.fI e.t.gE ["_law_d","_law_kinds_here","_law_plan_here"] (spD e.K (fT 13)):=(bZ T 12 17 ⋯ bg bG aU cG (bZ T 11 16 ⋯ bg bG aU cG (bZ T 10 15 ⋯ bg bG aU cG (bZ T 9 14 ⋯ bg bG aU cG (bZ T 8 13 ⋯ bg bG aU cG (bZ T 7 12 ⋯ bg bG aU cG (bZ T 6 11 ⋯ bg bG aU cG (bZ T 5 10 ⋯ bg bG aU cG (bZ T 4 9 ⋯ bg bG aU cG (bZ T 3 8 ⋯ bg bG aU cG (bZ T 2 7 ⋯ bg bG aU cG (bZ T 1 6 ⋯ bg bG aU cG (bZ T 0 5 ⋯ bg bG aU cG C5)))))))))))))
theorem L8:aN ["d","shapes","plan","word","inner"] ["d","shapes","plan"] (aC pU):=by walk_at "s"
theorem IF:bO e.P e.w e.K e.mg e.base CX0 6 e.t.jO e.t.mX ["d","shapes","plan"] (spD e.K (mJ 0)):=
 ⟨fun vs H Q E h=>by obtain⟨ds,U,Qd,_,r,z,_⟩:=h;exact (JE z).elim,fun A outer s H args us vs Q E hr e0 hb hv h=>by obtain⟨ds,U,Qd,_,r,z,_⟩:=h;exact (JE z).elim⟩
theorem cP(T:TX e)(n k:Nat)(hk:6<=k)(bc:jK e)(cA:vW e)(fJ:FV e)(cx:pT e)(dA:B4 e)(jM:bO e.P e.w e.K e.mg e.base CX0 k e.t.jO e.t.mX ["d","shapes","plan"] (spD e.K (mJ n))):bO e.P e.w e.K e.mg e.base CX0 (k+1) e.t.jO e.t.mX ["d","shapes","plan"] (spD e.K (mJ (n+1))):=by
 have S:=L8
 exact T.O9.okD S (fun ds U Q h=>EL h) (fun cdv A outer s H E hr=>⟨yM n,(aj (aT (i:=3) S.nd rfl (Or.inl rfl) (aA (dv 2) ah))
  (aj (bY (aZ (bU hr.units) bI (dv 3) aw (aM _)) (av (aJ (aA (dv 1) (aA (dv 2) ah)))) br)
  (aj (nU (i:=4) (N':=["part","d","shapes"]) (cap:=[none,some 0,some 1]) S.nd rfl rfl rfl (fS (ak bc (hr.mono ∅) rfl T.yA T.ya T.yP (aa (dv 2) af))) (fun _ _ _=>(aV (i:=0) (show List.Nodup (["part","d","shapes"]:List Str) by decide +kernel) rfl (Or.inl rfl))) (fun _ _ _=>fz) (fun _ _ _=>(ak jM (hr.mono ∅) rfl T.A3 T.Bo T.A0 (aa (dv 1) (aa (dv 2) (aa (dv 0) af))))) rfl nofun rfl nofun (by walk_at "cl") (cC rfl) rfl (eS ⟨BP,⟨BP,trivial⟩⟩))
  (aj (bY (aZ (bU hr.units) bI (dv 3) aw (aM _)) (av (aJ (ak cA (hr.mono ∅) rfl T.yC T.yS T.yR (aa (dv 0) (aa (aA (dv 4) ah) af))))) br)
  (aj (bY (aZ (bU hr.units) bI (dv 3) aw (aM _)) (av (aJ (ak fJ (hr.mono ∅) rfl T.Sl T.So T.Ts (aa (dv 0) (aa (aA (dv 4) ah) (aa (ak cx (hr.mono ∅) rfl T.AR T.AD T.zY (aa (aA (dv 2) ah) (aa ah (aa (aA (dv 2) ah) af)))) af)))))) br)
  (aj (bY (aZ (bU hr.units) bI (dv 3) aw (aM _)) (av (aJ (ak dA (hr.mono ∅) rfl T.Ly T.K0 T.J2 (aa (dv 4) af)))) br)
  (av (aJ (ak cA (hr.mono ∅) rfl T.yC T.yS T.yR (aa (dv 0) (aa (ak dA (hr.mono ∅) rfl T.Ly T.K0 T.J2 (aa (tO (N':=["shape","d"]) (cap:=[none,some 0]) rfl (fS (dv 4)) (fun _ _ _=>(aV (i:=0) (show List.Nodup (["shape","d"]:List Str) by decide +kernel) rfl (Or.inl rfl))) (fun _ _ _=>fz) (fun _ _ _=>(ak cA (hr.mono ∅) rfl T.yC T.yS T.yR (aa (dv 1) (aa (dv 0) af)))) rfl nofun rfl nofun (by walk_at "cl") (cC rfl) rfl (eS ⟨BP,trivial⟩)) af)) af))))))))))),fun ds U Qd h=>Nm n h⟩)
theorem Me(T:TX e)(bc:jK e)(cA:vW e)(fJ:FV e)(cx:pT e)(dA:B4 e):bO e.P e.w e.K e.mg e.base CX0 19 e.t.jO e.t.mX ["d","shapes","plan"] (spD e.K (mJ 13)):=(cP T 12 18 ⋯ bc cA fJ cx dA (cP T 11 17 ⋯ bc cA fJ cx dA (cP T 10 16 ⋯ bc cA fJ cx dA (cP T 9 15 ⋯ bc cA fJ cx dA (cP T 8 14 ⋯ bc cA fJ cx dA (cP T 7 13 ⋯ bc cA fJ cx dA (cP T 6 12 ⋯ bc cA fJ cx dA (cP T 5 11 ⋯ bc cA fJ cx dA (cP T 4 10 ⋯ bc cA fJ cx dA (cP T 3 9 ⋯ bc cA fJ cx dA (cP T 2 8 ⋯ bc cA fJ cx dA (cP T 1 7 ⋯ bc cA fJ cx dA (cP T 0 6 ⋯ bc cA fJ cx dA IF)))))))))))))
theorem wO:aN ["d","kinds","plan"] ["d","kinds","plan"] (aC lY):=by walk_at "s"
theorem wk(T:TX e)(bq:cQ e):oi e:=by
 have S:=wO
 exact T.yY.okX S (fun ds U Xk h=>FO h) (fun cdv A outer s H E hr=>⟨ic,(df (nO (cK bq (hr.mono ⋯) rfl T.cq T.ck T.cm gH (aa (dv 0) (aa (dv 1) af))))),fun ds U Xk h=>wj h⟩)
theorem xR(T:TX e)(aW:cN e)(bB:de e):pf e:=by
 have S:=wO
 exact T.yY.okX S (fun ds U Xk h=>Fs h) (fun cdv A outer s H E hr=>⟨iS,(gR (fA (ak aW (hr.mono ⋯) rfl T.cq T.ck T.cm (aa (dv 0) (aa (dv 1) af))))
  (df (nO (cK bB (hr.mono ⋯) rfl T.dR T.dP T.dU gH (aa (dv 2) (aa (cH rfl T.dD (aa (dv 1) af)) af)))))),fun ds U Xk h=>xI h⟩)
theorem J4(T:TX e)(aW:cN e)(cD:gP e)(jM:DZ e):CO e:=by
 have S:=wO
 exact T.yY.okD S (fun ds U Q h=>Gs h) (fun cdv A outer s H E hr=>⟨wL,(aj (fA (ak aW (hr.mono ⋯) rfl T.cq T.ck T.cm (aa (dv 0) (aa (dv 1) af))))
  (aj (fA (ak cD (hr.mono ⋯) rfl T.dR T.dP T.dU (aa (dv 2) (aa (cH rfl T.dD (aa (dv 1) af)) af))))
  (av (aJ (ak jM (hr.mono ⋯) rfl T.A3 T.Bo T.A0 (aa (dv 0) (aa (dv 1) (aa (dv 2) af)))))))),fun ds U Qd h=>JS h⟩)
theorem yB:aN ["d","kinds","plan","x","y","shape","box","quarters"] ["d","kinds","plan","x","y"] (aC pV):=by walk_at "s"
theorem xM(T:TX e)(bq:cQ e):ph e:=by
 have S:=yB
 exact T.AZ.okX S (fun ds U Xk h=>Nr h) (fun cdv A outer s H E hr=>⟨iV,(df (nO (cK bq (hr.mono ⋯) rfl T.cq T.ck T.cm gH (aa (dv 0) (aa (dv 1) af))))),fun ds U Xk h=>xO h⟩)
theorem x5(T:TX e)(aW:cN e)(bB:de e):qy e:=by
 have S:=yB
 exact T.AZ.okX S (fun ds U Xk h=>MB h) (fun cdv A outer s H E hr=>⟨jn,(gR (fA (ak aW (hr.mono ⋯) rfl T.cq T.ck T.cm (aa (dv 0) (aa (dv 1) af))))
  (df (nO (cK bB (hr.mono ⋯) rfl T.dR T.dP T.dU gH (aa (dv 2) (aa (cH rfl T.dD (aa (dv 1) af)) af)))))),fun ds U Xk h=>zj h⟩)
theorem zk(T:TX e)(aW:cN e)(cD:gP e)(jM:DZ e)(gG:jW e):qJ e:=by
 have S:=yB
 exact T.AZ.okX S (fun ds U Xk h=>MR h) (fun cdv A outer s H E hr=>⟨jw,(gR (fA (ak aW (hr.mono ⋯) rfl T.cq T.ck T.cm (aa (dv 0) (aa (dv 1) af))))
  (gR (fA (ak cD (hr.mono ⋯) rfl T.dR T.dP T.dU (aa (dv 2) (aa (cH rfl T.dD (aa (dv 1) af)) af))))
  (gR (aT (i:=5) S.nd rfl (Or.inl rfl) (ak jM (hr.mono ⋯) rfl T.A3 T.Bo T.A0 (aa (dv 0) (aa (dv 1) (aa (dv 2) af)))))
  (df (nO (cK gG (hr.mono ⋯) rfl T.FU T.EI T.E7 gH (aa (dv 0) (aa (dv 5) (aa (dv 3) (aa (dv 4) af)))))))))),fun ds U Xk h=>yZ h⟩)
theorem cL:aN ["_law_deed","e","_law_some","_law_names"] ["_law_deed"] (aC gc):=by walk_at "s"
theorem Jp(T:TX e):zG e:=by
 have S:=cL
 exact Eg (k:=20) T.hZ cL rfl rfl rfl rfl T.kS T.zh ⋯ ⋯ ⋯ (fun _=>rfl) (fun cdv A outer s H ea oe hc hr=>(aj (aT (i:=2) S.nd rfl (Or.inl rfl) (cf (aa (az (aa aw (aa (bA (ea:=ea) (oe:=oe) T.dk (mem_cons_self) hc T.ly rfl T.ao rfl T.xb (dv 1)) af))) (aa (az (aa aw (aa (bA (ea:=ea) (oe:=oe) T.dk (mem_cons_self) hc T.i4 rfl T.ao rfl T.nk (dv 1)) af))) (aa (az (aa aw (aa (bA (ea:=ea) (oe:=oe) T.dk (mem_cons_self) hc T.iZ rfl T.ao rfl T.qu (dv 1)) af))) (aa (az (aa aw (aa (bA (ea:=ea) (oe:=oe) T.dk (mem_cons_self) hc T.kT rfl T.ao rfl T.wy (dv 1)) af))) (aa (az (aa aw (aa (bA (ea:=ea) (oe:=oe) T.dk (mem_cons_self) hc T.nr rfl T.ao rfl T.zU (dv 1)) af))) (aa (az (aa aw (aa (bA (ea:=ea) (oe:=oe) T.dk (mem_cons_self) hc T.ju rfl T.ao rfl T.pM (dv 1)) af))) (aa (az (aa aw (aa (bA (ea:=ea) (oe:=oe) T.dk (mem_cons_self) hc T.kH rfl T.ao rfl T.sY (dv 1)) af))) (aa (az (aa aw (aa (bA (ea:=ea) (oe:=oe) T.dk (mem_cons_self) hc T.kI rfl T.ao rfl T.sO (dv 1)) af))) (aa (az (aa aw (aa (bA (ea:=ea) (oe:=oe) T.dk (mem_cons_self) hc T.mM rfl T.ao rfl T.Ad (dv 1)) af))) (aa (az (aa aw (aa (bA (ea:=ea) (oe:=oe) T.dk (mem_cons_self) hc T.ky rfl T.ao rfl T.vM (dv 1)) af))) (aa (az (aa aw (aa (bA (ea:=ea) (oe:=oe) T.dk (mem_cons_self) hc T.iU rfl T.ao rfl T.qw (dv 1)) af))) (aa (az (aa aw (aa (bA (ea:=ea) (oe:=oe) T.dk (mem_cons_self) hc T.kU rfl T.ao rfl T.vG (dv 1)) af))) (aa (az (aa aw (aa (bA (ea:=ea) (oe:=oe) T.dk (mem_cons_self) hc T.jr rfl T.ao rfl T.pO (dv 1)) af))) af)))))))))))))))
  (aj (nU (i:=3) (N':=["_law_name","_law_is_so"]) (cap:=[none,none]) S.nd rfl rfl rfl (fS (dv 2)) (fun _ _ _=>(iR (n:=2) rfl (bD (aV (i:=0) (show List.Nodup (["_law_name","_law_is_so"]:List Str) by decide +kernel) rfl (Or.inl rfl)) (bD (aV (i:=1) (show List.Nodup (["_law_name","_law_is_so"]:List Str) by decide +kernel) rfl (Or.inl rfl)) fQ)))) (fun _ _ _=>(tw (cO (dv 1)))) (fun _ _ _=>(dv 0)) rfl nofun rfl nofun (by walk_at "cl") (cC rfl) rfl (eS trivial))
  (aj (bY (DW.dt (jF (aZ (bU hr.units) bI (cH rfl T.dD (aa (dv 3) af)) ah (aM _)) (iF (cO (Aa (ea:=ea) (oe:=oe) (T:="ValueError") T.dk (mem_cons_self) hc T.uO rfl T.ao rfl T.lj PyProof.Rows.Boot.«ValueError» (dv 1)))))) (av (aJ (aA (dv 3) ah))) br)
  (av (aJ aw)))))) (fun ea fa U Qd h=>rK h)
theorem KL(T:TX e):CN e:=by
 have S:=cL
 exact Eg (k:=20) T.hZ cL rfl rfl rfl rfl T.kS T.BH ⋯ ⋯ ⋯ (fun _=>rfl) (fun cdv A outer s H ea oe hc hr=>(aj (aT (i:=2) S.nd rfl (Or.inl rfl) (cf (aa (az (aa aw (aa (bA (ea:=ea) (oe:=oe) T.d5 (mem_cons_self) hc T.lT rfl T.ao rfl T.xb (dv 1)) af))) (aa (az (aa aw (aa (bA (ea:=ea) (oe:=oe) T.d5 (mem_cons_self) hc T.jC rfl T.ao rfl T.nk (dv 1)) af))) (aa (az (aa aw (aa (bA (ea:=ea) (oe:=oe) T.d5 (mem_cons_self) hc T.jo rfl T.ao rfl T.qu (dv 1)) af))) (aa (az (aa aw (aa (bA (ea:=ea) (oe:=oe) T.d5 (mem_cons_self) hc T.l5 rfl T.ao rfl T.wy (dv 1)) af))) (aa (az (aa aw (aa (bA (ea:=ea) (oe:=oe) T.d5 (mem_cons_self) hc T.oU rfl T.ao rfl T.zU (dv 1)) af))) (aa (az (aa aw (aa (bA (ea:=ea) (oe:=oe) T.d5 (mem_cons_self) hc T.k9 rfl T.ao rfl T.pM (dv 1)) af))) (aa (az (aa aw (aa (bA (ea:=ea) (oe:=oe) T.d5 (mem_cons_self) hc T.mQ rfl T.ao rfl T.sY (dv 1)) af))) (aa (az (aa aw (aa (bA (ea:=ea) (oe:=oe) T.d5 (mem_cons_self) hc T.lQ rfl T.ao rfl T.sO (dv 1)) af))) (aa (az (aa aw (aa (bA (ea:=ea) (oe:=oe) T.d5 (mem_cons_self) hc T.oY rfl T.ao rfl T.Ad (dv 1)) af))) (aa (az (aa aw (aa (bA (ea:=ea) (oe:=oe) T.d5 (mem_cons_self) hc T.mT rfl T.ao rfl T.vM (dv 1)) af))) (aa (az (aa aw (aa (bA (ea:=ea) (oe:=oe) T.d5 (mem_cons_self) hc T.jz rfl T.ao rfl T.qw (dv 1)) af))) (aa (az (aa aw (aa (bA (ea:=ea) (oe:=oe) T.d5 (mem_cons_self) hc T.mV rfl T.ao rfl T.vG (dv 1)) af))) (aa (az (aa aw (aa (bA (ea:=ea) (oe:=oe) T.d5 (mem_cons_self) hc T.ko rfl T.ao rfl T.pO (dv 1)) af))) af)))))))))))))))
  (aj (nU (i:=3) (N':=["_law_name","_law_is_so"]) (cap:=[none,none]) S.nd rfl rfl rfl (fS (dv 2)) (fun _ _ _=>(iR (n:=2) rfl (bD (aV (i:=0) (show List.Nodup (["_law_name","_law_is_so"]:List Str) by decide +kernel) rfl (Or.inl rfl)) (bD (aV (i:=1) (show List.Nodup (["_law_name","_law_is_so"]:List Str) by decide +kernel) rfl (Or.inl rfl)) fQ)))) (fun _ _ _=>(tw (cO (dv 1)))) (fun _ _ _=>(dv 0)) rfl nofun rfl nofun (by walk_at "cl") (cC rfl) rfl (eS trivial))
  (aj (bY (DW.dt (jF (aZ (bU hr.units) bI (cH rfl T.dD (aa (dv 3) af)) ah (aM _)) (iF (cO (Aa (ea:=ea) (oe:=oe) (T:="ValueError") T.d5 (mem_cons_self) hc T.vX rfl T.ao rfl T.lj PyProof.Rows.Boot.«ValueError» (dv 1)))))) (av (aJ (aA (dv 3) ah))) br)
  (av (aJ aw)))))) (fun ea fa U Qd h=>tE h)
theorem Mv(T:TX e):Ez e:=by
 have S:=cL
 exact Eg (k:=20) T.hZ cL rfl rfl rfl rfl T.kS T.Eu ⋯ ⋯ ⋯ (fun _=>rfl) (fun cdv A outer s H ea oe hc hr=>(aj (aT (i:=2) S.nd rfl (Or.inl rfl) (cf (aa (az (aa aw (aa (bA (ea:=ea) (oe:=oe) T.fK (mem_cons_self) hc T.o4 rfl T.ao rfl T.xb (dv 1)) af))) (aa (az (aa aw (aa (bA (ea:=ea) (oe:=oe) T.fK (mem_cons_self) hc T.kJ rfl T.ao rfl T.nk (dv 1)) af))) (aa (az (aa aw (aa (bA (ea:=ea) (oe:=oe) T.fK (mem_cons_self) hc T.lE rfl T.ao rfl T.qu (dv 1)) af))) (aa (az (aa aw (aa (bA (ea:=ea) (oe:=oe) T.fK (mem_cons_self) hc T.pd rfl T.ao rfl T.wy (dv 1)) af))) (aa (az (aa aw (aa (bA (ea:=ea) (oe:=oe) T.fK (mem_cons_self) hc T.qc rfl T.ao rfl T.zU (dv 1)) af))) (aa (az (aa aw (aa (bA (ea:=ea) (oe:=oe) T.fK (mem_cons_self) hc T.mE rfl T.ao rfl T.pM (dv 1)) af))) (aa (az (aa aw (aa (bA (ea:=ea) (oe:=oe) T.fK (mem_cons_self) hc T.pb rfl T.ao rfl T.sY (dv 1)) af))) (aa (az (aa aw (aa (bA (ea:=ea) (oe:=oe) T.fK (mem_cons_self) hc T.oN rfl T.ao rfl T.sO (dv 1)) af))) (aa (az (aa aw (aa (bA (ea:=ea) (oe:=oe) T.fK (mem_cons_self) hc T.p7 rfl T.ao rfl T.Ad (dv 1)) af))) (aa (az (aa aw (aa (bA (ea:=ea) (oe:=oe) T.fK (mem_cons_self) hc T.oj rfl T.ao rfl T.vM (dv 1)) af))) (aa (az (aa aw (aa (bA (ea:=ea) (oe:=oe) T.fK (mem_cons_self) hc T.lq rfl T.ao rfl T.qw (dv 1)) af))) (aa (az (aa aw (aa (bA (ea:=ea) (oe:=oe) T.fK (mem_cons_self) hc T.o3 rfl T.ao rfl T.vG (dv 1)) af))) (aa (az (aa aw (aa (bA (ea:=ea) (oe:=oe) T.fK (mem_cons_self) hc T.lV rfl T.ao rfl T.pO (dv 1)) af))) af)))))))))))))))
  (aj (nU (i:=3) (N':=["_law_name","_law_is_so"]) (cap:=[none,none]) S.nd rfl rfl rfl (fS (dv 2)) (fun _ _ _=>(iR (n:=2) rfl (bD (aV (i:=0) (show List.Nodup (["_law_name","_law_is_so"]:List Str) by decide +kernel) rfl (Or.inl rfl)) (bD (aV (i:=1) (show List.Nodup (["_law_name","_law_is_so"]:List Str) by decide +kernel) rfl (Or.inl rfl)) fQ)))) (fun _ _ _=>(tw (cO (dv 1)))) (fun _ _ _=>(dv 0)) rfl nofun rfl nofun (by walk_at "cl") (cC rfl) rfl (eS trivial))
  (aj (bY (DW.dt (jF (aZ (bU hr.units) bI (cH rfl T.dD (aa (dv 3) af)) ah (aM _)) (iF (cO (Aa (ea:=ea) (oe:=oe) (T:="ValueError") T.fK (mem_cons_self) hc T.yd rfl T.ao rfl T.lj PyProof.Rows.Boot.«ValueError» (dv 1)))))) (av (aJ (aA (dv 3) ah))) br)
  (av (aJ aw)))))) (fun ea fa U Qd h=>u5 h)
theorem Nd(T:TX e):Ew e:=by
 have S:=cL
 exact Eg (k:=20) T.hZ cL rfl rfl rfl rfl T.kS T.D4 ⋯ ⋯ ⋯ (fun _=>rfl) (fun cdv A outer s H ea oe hc hr=>(aj (aT (i:=2) S.nd rfl (Or.inl rfl) (cf (aa (az (aa aw (aa (bA (ea:=ea) (oe:=oe) T.fF (mem_cons_self) hc T.oK rfl T.ao rfl T.xb (dv 1)) af))) (aa (az (aa aw (aa (bA (ea:=ea) (oe:=oe) T.fF (mem_cons_self) hc T.kY rfl T.ao rfl T.nk (dv 1)) af))) (aa (az (aa aw (aa (bA (ea:=ea) (oe:=oe) T.fF (mem_cons_self) hc T.kC rfl T.ao rfl T.qu (dv 1)) af))) (aa (az (aa aw (aa (bA (ea:=ea) (oe:=oe) T.fF (mem_cons_self) hc T.oq rfl T.ao rfl T.wy (dv 1)) af))) (aa (az (aa aw (aa (bA (ea:=ea) (oe:=oe) T.fF (mem_cons_self) hc T.qG rfl T.ao rfl T.zU (dv 1)) af))) (aa (az (aa aw (aa (bA (ea:=ea) (oe:=oe) T.fF (mem_cons_self) hc T.ma rfl T.ao rfl T.pM (dv 1)) af))) (aa (az (aa aw (aa (bA (ea:=ea) (oe:=oe) T.fF (mem_cons_self) hc T.oB rfl T.ao rfl T.sY (dv 1)) af))) (aa (az (aa aw (aa (bA (ea:=ea) (oe:=oe) T.fF (mem_cons_self) hc T.oW rfl T.ao rfl T.sO (dv 1)) af))) (aa (az (aa aw (aa (bA (ea:=ea) (oe:=oe) T.fF (mem_cons_self) hc T.ql rfl T.ao rfl T.Ad (dv 1)) af))) (aa (az (aa aw (aa (bA (ea:=ea) (oe:=oe) T.fF (mem_cons_self) hc T.oE rfl T.ao rfl T.vM (dv 1)) af))) (aa (az (aa aw (aa (bA (ea:=ea) (oe:=oe) T.fF (mem_cons_self) hc T.lC rfl T.ao rfl T.qw (dv 1)) af))) (aa (az (aa aw (aa (bA (ea:=ea) (oe:=oe) T.fF (mem_cons_self) hc T.ou rfl T.ao rfl T.vG (dv 1)) af))) (aa (az (aa aw (aa (bA (ea:=ea) (oe:=oe) T.fF (mem_cons_self) hc T.md rfl T.ao rfl T.pO (dv 1)) af))) af)))))))))))))))
  (aj (nU (i:=3) (N':=["_law_name","_law_is_so"]) (cap:=[none,none]) S.nd rfl rfl rfl (fS (dv 2)) (fun _ _ _=>(iR (n:=2) rfl (bD (aV (i:=0) (show List.Nodup (["_law_name","_law_is_so"]:List Str) by decide +kernel) rfl (Or.inl rfl)) (bD (aV (i:=1) (show List.Nodup (["_law_name","_law_is_so"]:List Str) by decide +kernel) rfl (Or.inl rfl)) fQ)))) (fun _ _ _=>(tw (cO (dv 1)))) (fun _ _ _=>(dv 0)) rfl nofun rfl nofun (by walk_at "cl") (cC rfl) rfl (eS trivial))
  (aj (bY (DW.dt (jF (aZ (bU hr.units) bI (cH rfl T.dD (aa (dv 3) af)) ah (aM _)) (iF (cO (Aa (ea:=ea) (oe:=oe) (T:="ValueError") T.fF (mem_cons_self) hc T.ym rfl T.ao rfl T.lj PyProof.Rows.Boot.«ValueError» (dv 1)))))) (av (aJ (aA (dv 3) ah))) br)
  (av (aJ aw)))))) (fun ea fa U Qd h=>tT h)
theorem LH(T:TX e):CM e:=by
 have S:=cL
 exact Eg (k:=20) T.hZ cL rfl rfl rfl rfl T.kS T.Bz ⋯ ⋯ ⋯ (fun _=>rfl) (fun cdv A outer s H ea oe hc hr=>(aj (aT (i:=2) S.nd rfl (Or.inl rfl) (cf (aa (az (aa aw (aa (bA (ea:=ea) (oe:=oe) T.d4 (mem_cons_self) hc T.lW rfl T.ao rfl T.xb (dv 1)) af))) (aa (az (aa aw (aa (bA (ea:=ea) (oe:=oe) T.d4 (mem_cons_self) hc T.jt rfl T.ao rfl T.nk (dv 1)) af))) (aa (az (aa aw (aa (bA (ea:=ea) (oe:=oe) T.d4 (mem_cons_self) hc T.jA rfl T.ao rfl T.qu (dv 1)) af))) (aa (az (aa aw (aa (bA (ea:=ea) (oe:=oe) T.d4 (mem_cons_self) hc T.mS rfl T.ao rfl T.wy (dv 1)) af))) (aa (az (aa aw (aa (bA (ea:=ea) (oe:=oe) T.d4 (mem_cons_self) hc T.oI rfl T.ao rfl T.zU (dv 1)) af))) (aa (az (aa aw (aa (bA (ea:=ea) (oe:=oe) T.d4 (mem_cons_self) hc T.ll rfl T.ao rfl T.pM (dv 1)) af))) (aa (az (aa aw (aa (bA (ea:=ea) (oe:=oe) T.d4 (mem_cons_self) hc T.mv rfl T.ao rfl T.sY (dv 1)) af))) (aa (az (aa aw (aa (bA (ea:=ea) (oe:=oe) T.d4 (mem_cons_self) hc T.lS rfl T.ao rfl T.sO (dv 1)) af))) (aa (az (aa aw (aa (bA (ea:=ea) (oe:=oe) T.d4 (mem_cons_self) hc T.oP rfl T.ao rfl T.Ad (dv 1)) af))) (aa (az (aa aw (aa (bA (ea:=ea) (oe:=oe) T.d4 (mem_cons_self) hc T.mz rfl T.ao rfl T.vM (dv 1)) af))) (aa (az (aa aw (aa (bA (ea:=ea) (oe:=oe) T.d4 (mem_cons_self) hc T.jv rfl T.ao rfl T.qw (dv 1)) af))) (aa (az (aa aw (aa (bA (ea:=ea) (oe:=oe) T.d4 (mem_cons_self) hc T.mC rfl T.ao rfl T.vG (dv 1)) af))) (aa (az (aa aw (aa (bA (ea:=ea) (oe:=oe) T.d4 (mem_cons_self) hc T.kd rfl T.ao rfl T.pO (dv 1)) af))) af)))))))))))))))
  (aj (nU (i:=3) (N':=["_law_name","_law_is_so"]) (cap:=[none,none]) S.nd rfl rfl rfl (fS (dv 2)) (fun _ _ _=>(iR (n:=2) rfl (bD (aV (i:=0) (show List.Nodup (["_law_name","_law_is_so"]:List Str) by decide +kernel) rfl (Or.inl rfl)) (bD (aV (i:=1) (show List.Nodup (["_law_name","_law_is_so"]:List Str) by decide +kernel) rfl (Or.inl rfl)) fQ)))) (fun _ _ _=>(tw (cO (dv 1)))) (fun _ _ _=>(dv 0)) rfl nofun rfl nofun (by walk_at "cl") (cC rfl) rfl (eS trivial))
  (aj (bY (DW.dt (jF (aZ (bU hr.units) bI (cH rfl T.dD (aa (dv 3) af)) ah (aM _)) (iF (cO (Aa (ea:=ea) (oe:=oe) (T:="ValueError") T.d4 (mem_cons_self) hc T.vH rfl T.ao rfl T.lj PyProof.Rows.Boot.«ValueError» (dv 1)))))) (av (aJ (aA (dv 3) ah))) br)
  (av (aJ aw)))))) (fun ea fa U Qd h=>sM h)
theorem B2:aN ["_law_thing","_law_many","_law_deep","_law_word","_law_size","_law_parts","_law_counts"] ["_law_thing","_law_many","_law_deep"] (aC fm):=by walk_at "s"
theorem yK:bO e.P e.w e.K e.mg e.base CX0 2 e.t.dy e.t.d8 ["_law_thing","_law_many","_law_deep"] (spD e.K (fX 0)):=
 ⟨fun vs H Q E h=>by obtain⟨ds,U,Qd,_,r,z,_⟩:=h;exact (Fx z).elim,fun A outer s H args us vs Q E hr e0 hb hv h=>by obtain⟨ds,U,Qd,_,r,z,_⟩:=h;exact (Fx z).elim⟩
theorem aF(T:TX e)(n k:Nat)(hk:2<=k)(aD:iy e)(dw:bO e.P e.w e.K e.mg e.base CX0 k e.t.dy e.t.d8 ["_law_thing","_law_many","_law_deep"] (spD e.K (fX n))):bO e.P e.w e.K e.mg e.base CX0 (k+1) e.t.dy e.t.d8 ["_law_thing","_law_many","_law_deep"] (spD e.K (fX (n+1))):=by
 have S:=B2
 exact T.Dh.okD S (fun ds U Q h=>GD h) (fun cdv A outer s H E hr=>⟨nH n,(aj (bY (DW.dt (kj (aZ (bU hr.units) bI (dv 2) ah (aM _)) (kj (fW (cO (p4 (kit_tuple _) rfl T.ao rfl T.nL PyProof.Rows.Boot.«tuple» (dv 0)))) (lZ (aZ tK eT (cH rfl T.dD (aa (dv 0) af)) ah (aM _)))))) (av (aJ ah)) br)
  (aj (Bs (i:=3) (j:=4) rfl S.nd rfl rfl ⋯ rfl rfl (aa (aA (dv 0) ah) (aa (cH rfl T.dD (aa (dv 0) af)) af)) rfl)
  (aj (bY (aZ (bU hr.units) bI (dv 3) aw (aM _)) (av (aJ (nW rfl T.xZ (aa (iY (fN (bU hr.units) bI (dv 4) ah (aM _)) (iY (ak aD (hr.mono ∅) rfl T.oQ T.ot T.o6 (aa (aA (dv 0) ah) af)) (oX (Lh Cy eT tK eT ah (aA (dv 0) ah) (dv 1))))) af)))) br)
  (aj (aT (i:=5) S.nd rfl (Or.inl rfl) (cf af))
  (aj (bY (DW.dt (jF (aZ (bU hr.units) bI (dv 3) aw (aM _)) (iF (aZ (bU hr.units) bI (dv 4) ah (aM _))))) (av (aT (i:=5) S.nd rfl (Or.inl rfl) (cf (aa (aA (dv 0) ah) af)))) (av (bY (DW.dt (jF (aZ (PV hr.units) Nk (dv 3) (cf (aa aw (aa aw af))) (by with_unfolding_all rfl)) (jF (aZ (bU hr.units) bI (dv 4) ah (aM _)) (iF (cO (p4 (kit_tuple _) rfl T.ao rfl T.nL PyProof.Rows.Boot.«tuple» (aA (dv 0) ah))))))) (av (aT (i:=5) S.nd rfl (Or.inl rfl) (E6 (QU Cy eT Cy eT ah (cH rfl T.dD (aa (aA (dv 0) ah) af)) ah) (xt rfl T.BY (aa (aA (dv 0) ah) af)) (cf af)))) (av (bY (DW.dt (jF (aZ (bU hr.units) bI (dv 3) aw (aM _)) (jF (aZ (bU hr.units) bI (dv 4) ah (aM _)) (iF (cO (Iu rfl rfl T.N0 (aa (Jk (N':=["_law_one"]) (cap:=[none]) rfl (DV (i9 (dv 0) (kK ah) (kK ah))) (fun _ _ _=>(aV (i:=0) (show List.Nodup (["_law_one"]:List Str) by decide +kernel) rfl (Or.inl rfl))) (fun _ _ _=>fz) (fun _ _ _=>(iY (ak aD (hr.mono ∅) rfl T.oQ T.ot T.o6 (aa (dv 0) af)) (oX (fN lM eT (dv 0) ah (aM _))))) rfl nofun rfl nofun (by walk_at "cl") (cC rfl) rfl (eS trivial)) af))))))) (av (aT (i:=5) S.nd rfl (Or.inl rfl) (cf (aa (aA (dv 0) ah) af)))) br)))))
  (aj (nU (i:=6) (N':=["_law_part","_law_many","_law_deep"]) (cap:=[none,some 1,some 2]) S.nd rfl rfl rfl (fS (dv 5)) (fun _ _ _=>(aV (i:=0) (show List.Nodup (["_law_part","_law_many","_law_deep"]:List Str) by decide +kernel) rfl (Or.inl rfl))) (fun _ _ _=>fz) (fun _ _ _=>(ak dw (hr.mono ∅) rfl T.o9 T.oJ T.oS (aa (dv 0) (aa (dv 1) (aa (hU (dv 2) ah) af))))) rfl nofun rfl nofun (by walk_at "cl") (cC rfl) rfl (eS ⟨BP,⟨BP,trivial⟩⟩))
  (aj (bY (DW.dt (kj (aZ (bU hr.units) bI (dv 6) (cf af) (aM _)) (lZ (aZ (bU hr.units) bI (Tw rfl rfl T.PY (aa (dv 6) af)) ah (aM _))))) (av (aJ ah)) br)
  (av (aJ (dg ah (MY rfl rfl T.QF (aa (dv 6) af)))))))))))),fun ds U Qd h=>B3 n h⟩)
theorem Bb(T:TX e)(aD:iy e):bO e.P e.w e.K e.mg e.base CX0 33 e.t.dy e.t.d8 ["_law_thing","_law_many","_law_deep"] (spD e.K (fX 31)):=(aF T 30 32 ⋯ aD (aF T 29 31 ⋯ aD (aF T 28 30 ⋯ aD (aF T 27 29 ⋯ aD (aF T 26 28 ⋯ aD (aF T 25 27 ⋯ aD (aF T 24 26 ⋯ aD (aF T 23 25 ⋯ aD (aF T 22 24 ⋯ aD (aF T 21 23 ⋯ aD (aF T 20 22 ⋯ aD (aF T 19 21 ⋯ aD (aF T 18 20 ⋯ aD (aF T 17 19 ⋯ aD (aF T 16 18 ⋯ aD (aF T 15 17 ⋯ aD (aF T 14 16 ⋯ aD (aF T 13 15 ⋯ aD (aF T 12 14 ⋯ aD (aF T 11 13 ⋯ aD (aF T 10 12 ⋯ aD (aF T 9 11 ⋯ aD (aF T 8 10 ⋯ aD (aF T 7 9 ⋯ aD (aF T 6 8 ⋯ aD (aF T 5 7 ⋯ aD (aF T 4 6 ⋯ aD (aF T 3 5 ⋯ aD (aF T 2 4 ⋯ aD (aF T 1 3 ⋯ aD (aF T 0 2 ⋯ aD yK)))))))))))))))))))))))))))))))
theorem zr:aN ["_law_thing","_law_many"] ["_law_thing","_law_many"] (aC eo):=by walk_at "s"
theorem AS(T:TX e)(dw:sL e):qW e:=by
 have S:=zr
 exact T.Bu.okD S (fun ds U Q h=>Gr h) (fun cdv A outer s H E hr=>⟨lA,(av (aJ (Lh tK eT Cy eT ah (ak dw (hr.mono ⋯) rfl T.o9 T.oJ T.oS (aa (dv 0) (aa (dv 1) (aa ah af)))) ah))),fun ds U Qd h=>AF h⟩)
theorem xN:aN ["_law_bag_here","_law_d","_law_kinds_here","_law_plan_here","_law_found","_law_kind","_law_x"] ["_law_bag_here","_law_d","_law_kinds_here","_law_plan_here"] (aC dG):=by walk_at "s"
theorem xQ(T:TX e)(dw:sL e)(aU:dO e)(aq:cj e)(cY:jc e)(jY:uI e):pk e:=by
 have S:=xN
 exact T.ye.okD S (fun ds U Q h=>Pu h) (fun cdv A outer s H E hr=>⟨iW,(aj (bY (aZ Cy eT (ak dw (hr.mono ⋯) rfl T.o9 T.oJ T.oS (aa (dv 3) (aa (cH rfl T.dD (aa (dv 2) af)) (aa ah af)))) ah (aM _)) (av (aJ (dv 2))) br)
  (aj (aT (i:=4) S.nd rfl (Or.inl rfl) (DD af))
  (aj (wI PassesOwn.never rfl (DV (dv 2)) (aV (i:=5) S.nd rfl (Or.inl rfl)) (aj (aT (i:=6) S.nd rfl (Or.inl rfl) (ak aU (hr.mono ⋯) rfl T.gA T.gF T.gw (aa (hU (ak aq (hr.mono ⋯) rfl T.aP T.aQ T.aO (aa (dv 0) (aa ah af))) ah) (aa (hU (ak aq (hr.mono ⋯) rfl T.aP T.aQ T.aO (aa (dv 0) (aa ah af))) ah) (aa (dg ah (ak aq (hr.mono ⋯) rfl T.aP T.aQ T.aO (aa (dv 0) (aa ah af)))) af)))))
  (av (fA (xr (dv 4) (aA (cf (aa (az (aa ah (aa ah (aa ah af)))) (aa (dv 6) (aa (ak cY (hr.mono ⋯) rfl T.pK T.pG T.pF (aa (dv 6) af)) af)))) (ak jY (hr.mono ⋯) rfl T.CA T.CK T.CJ (aa (dv 1) (aa (dv 6) af)))))))))
  (av (aJ (Fo rfl T.nL (aa (dv 4) af))))))),fun ds U Qd h=>xG h⟩)
theorem Ab:aN ["_law_bag_here","_law_plan_here","_law_many","_law_thing"] ["_law_bag_here","_law_plan_here","_law_many"] (aC eI):=by walk_at "s"
theorem zV(T:TX e)(eK:AQ e)(nu:qW e):rG e:=by
 have S:=Ab
 exact T.Bc.okD S (fun ds U Q h=>Lf h) (fun cdv A outer s H E hr=>⟨kQ,(aj (aT (i:=3) S.nd rfl (Or.inl rfl) (ak eK (hr.mono ⋯) rfl T.mG T.mO T.mB (aa (dv 0) (aa (dv 1) (aa (dv 2) af)))))
  (av (aJ (aA (cf (aa (dv 3) (aa (az (aa aw (aa (dv 2) af))) af))) (nW rfl T.xZ (aa (ak nu (hr.mono ⋯) rfl T.Ce T.BZ T.Cf (aa (dv 3) (aa (dv 2) af))) af)))))),fun ds U Qd h=>Af h⟩)
theorem xP:aN ["_law_bag_here","_law_d","_law_kinds_here","_law_plan_here","_law_nought","_law_one","_law_bad","_law_none","_law_shape_here","_law_x","_law_y","_law_width","_law_great","_law_deeds"] ["_law_bag_here","_law_d","_law_kinds_here","_law_plan_here"] (aC dF):=by walk_at "s"
theorem xH(T:TX e)(nE:rp e)(lU:rG e)(dM:xU e)(jm:sH e)(ey:kL e)(aq:cj e)(gJ:CN e)(fR:oi e)(lP:Ez e)(jI:pf e)(g8:km e)(hV:lG e)(gK:ph e)(hJ:qy e)(sG:Ew e)(fw:qJ e)(fO:nV e)(jy:pj e)(rj:zG e)(fD:lH e)(yV:CM e)(iX:nZ e):pq e:=by
 have S:=xP
 exact T.yn.YD S (fun ds U Q h=>Il h) (fun cdv hcv A outer s H E hr=>⟨i5 _ _ _ _ _ _ _ _ _ _ _ _ _ _ _ _ _ _,(aj (rL (az (aa (az (aa ah (aa ah (aa ah af)))) (aa (az (aa ah (aa ah (aa ah af)))) af))) (iR (n:=2) rfl (bD (aV (i:=4) S.nd rfl (Or.inr rfl)) (bD (aV (i:=5) S.nd rfl (Or.inr rfl)) fQ))))
  (aj (rL (az (aa (ak nE (hr.mono ⋯) rfl T.Bw T.Bt T.B7 (aa (dv 0) (aa (dv 1) (aa (dv 2) af)))) (aa (ak lU (hr.mono ⋯) rfl T.BC T.Be T.Cg (aa (dv 0) (aa (dv 3) (aa (cH rfl T.dD (aa (dv 2) af)) af)))) af))) (iR (n:=2) rfl (bD (aV (i:=6) S.nd rfl (Or.inr rfl)) (bD (aV (i:=7) S.nd rfl (Or.inr rfl)) fQ))))
  (aj (aT (i:=8) S.nd rfl (Or.inl rfl) (ak dM (hr.mono ⋯) rfl T.kE T.kh T.k6 (aa (dv 1) (aa (dv 2) (aa (dv 3) af)))))
  (aj (rL (az (aa (ak jm (hr.mono ⋯) rfl T.vo T.vq T.vm (aa (dv 0) (aa (dv 1) (aa (dv 5) af)))) (aa (ak jm (hr.mono ⋯) rfl T.vo T.vq T.vm (aa (dv 0) (aa (dv 1) (aa (dv 8) af)))) (aa (ak ey (hr.mono ⋯) rfl T.sV T.sf T.su (aa (dv 0) (aa (dv 1) af))) af)))) (iR (n:=3) rfl (bD (aV (i:=9) S.nd rfl (Or.inr rfl)) (bD (aV (i:=10) S.nd rfl (Or.inr rfl)) (bD (aV (i:=11) S.nd rfl (Or.inr rfl)) fQ)))))
  (aj (aT (i:=12) S.nd rfl (Or.inr rfl) (az (aa aw (aa (dg ah (ak aq (hr.mono ⋯) rfl T.aP T.aQ T.aO (aa (dv 0) (aa ah af)))) (aa (dg ah (ak aq (hr.mono ⋯) rfl T.aP T.aQ T.aO (aa (dv 0) (aa ah af)))) (aa (az (aa aw (aa ah af))) af))))))
  (aj (aT (i:=13) S.nd rfl (Or.inl rfl) (SR (aa (eY (aa aw (aa (gY T.ba (hcv.symm.trans T.aX) rfl rfl rfl) af))) (aa (eY (aa aw (aa (gY T.ba (hcv.symm.trans T.aX) rfl rfl rfl) af))) (aa (eY (aa aw (aa (gY T.ba (hcv.symm.trans T.aX) rfl rfl rfl) af))) (aa (eY (aa aw (aa (gY T.ba (hcv.symm.trans T.aX) rfl rfl rfl) af))) (aa (eY (aa aw (aa (gY T.ba (hcv.symm.trans T.aX) rfl rfl rfl) af))) (aa (eY (aa aw (aa (gY T.ba (hcv.symm.trans T.aX) rfl rfl rfl) af))) (aa (eY (aa aw (aa (gY T.ba (hcv.symm.trans T.aX) rfl rfl rfl) af))) (aa (eY (aa aw (aa (gY T.ba (hcv.symm.trans T.aX) rfl rfl rfl) af))) (aa (eY (aa aw (aa (gY T.ba (hcv.symm.trans T.aX) rfl rfl rfl) af))) (aa (eY (aa aw (aa (gY T.ba (hcv.symm.trans T.aX) rfl rfl rfl) af))) (aa (eY (aa aw (aa (gY T.ba (hcv.symm.trans T.aX) rfl rfl rfl) af))) (aa (eY (aa aw (aa (gY T.ba (hcv.symm.trans T.aX) rfl rfl rfl) af))) (aa (eY (aa aw (aa (gY T.ba (hcv.symm.trans T.aX) rfl rfl rfl) af))) (aa (eY (aa aw (aa (gY T.ba (hcv.symm.trans T.aX) rfl rfl rfl) af))) (aa (eY (aa aw (aa (gY T.ba (hcv.symm.trans T.aX) rfl rfl rfl) af))) (aa (eY (aa aw (aa (gY T.ba (hcv.symm.trans T.aX) rfl rfl rfl) af))) (aa (eY (aa aw (aa (gY T.ba (hcv.symm.trans T.aX) rfl rfl rfl) af))) (aa (eY (aa aw (aa (gY T.ba (hcv.symm.trans T.aX) rfl rfl rfl) af))) af))))))))))))))))))))
  (av (aJ (Iu rfl rfl T.N0 (aa (Ql (N':=["_law_name","_law_deed"]) (gx:=".") (cap:=[none,none]) rfl (dv 13) (fun _ _ _=>(TN (n:=2) rfl (Kc (aV (i:=0) (show List.Nodup (["_law_name","_law_deed","."]:List Str) by decide +kernel) rfl (Or.inl rfl)) (Kc (aV (i:=1) (show List.Nodup (["_law_name","_law_deed","."]:List Str) by decide +kernel) rfl (Or.inl rfl)) SA)))) (fun fp bi bv pins Z mt re G I3 S3 hfp hG=>(fN (bU hr.units) bI (Mk (gi:=2) (vi:=1) I3 hfp hG (cU (lO (N':=(["_law_d","_law_bad","_law_plan_here"]:List Str)) (cap:=[some 1,some 6,some 3]) gJ (fun A' outer' s' H' fa c1 E hrL=>(cV (cK fR (hrL.mono ⋯) rfl T.ui T.uM T.u6 eX (aa (dv 0) (aa (dv 1) (aa (dv 2) af)))))) (fun _ _ _=>rfl) rfl rfl rfl nofun (by walk_at "cl") (cC rfl) rfl (el ⟨bQ,⟨bQ,⟨bQ,trivial⟩⟩⟩)) (cU (lO (N':=(["_law_d","_law_bad"]:List Str)) (cap:=[some 1,some 6]) gJ (fun A' outer' s' H' fa c1 E hrL=>(cV (cK fR (hrL.mono ⋯) rfl T.ui T.uM T.u6 eX (aa (dv 0) (aa (dv 1) (aa IB af)))))) (fun _ _ _=>rfl) rfl rfl rfl nofun (by walk_at "cl") (cC rfl) rfl (el ⟨bQ,⟨bQ,trivial⟩⟩)) (cU (lO (N':=(["_law_d","_law_kinds_here","_law_none"]:List Str)) (cap:=[some 1,some 2,some 7]) lP (fun A' outer' s' H' fa c1 E hrL=>(cV (cK jI (hrL.mono ⋯) rfl T.ui T.uM T.u6 eX (aa (dv 0) (aa (dv 1) (aa (dv 2) af)))))) (fun _ _ _=>rfl) rfl rfl rfl nofun (by walk_at "cl") (cC rfl) rfl (el ⟨bQ,⟨bQ,⟨bQ,trivial⟩⟩⟩)) (cU (lO (N':=(["_law_d","_law_bad","_law_none"]:List Str)) (cap:=[some 1,some 6,some 7]) gJ (fun A' outer' s' H' fa c1 E hrL=>(cV (cK g8 (hrL.mono ⋯) rfl T.AL T.AA T.zD eX (aa (dv 0) (aa (dv 1) (aa (dv 2) af)))))) (fun _ _ _=>rfl) rfl rfl rfl nofun (by walk_at "cl") (cC rfl) rfl (el ⟨bQ,⟨bQ,⟨bQ,trivial⟩⟩⟩)) (cU (lO (N':=(["_law_d","_law_kinds_here","_law_none"]:List Str)) (cap:=[some 1,some 2,some 7]) lP (fun A' outer' s' H' fa c1 E hrL=>(cV (cK hV (hrL.mono ⋯) rfl T.AL T.AA T.zD eX (aa (dv 0) (aa (dv 1) (aa (dv 2) af)))))) (fun _ _ _=>rfl) rfl rfl rfl nofun (by walk_at "cl") (cC rfl) rfl (el ⟨bQ,⟨bQ,⟨bQ,trivial⟩⟩⟩)) (cU (lO (N':=(["_law_d","_law_bad","_law_plan_here","_law_nought"]:List Str)) (cap:=[some 1,some 6,some 3,some 4]) gJ (fun A' outer' s' H' fa c1 E hrL=>(cV (cK gK (hrL.mono ⋯) rfl T.mZ T.mj T.mw eX (aa (dv 0) (aa (dv 1) (aa (dv 2) (aa (dv 3) (aa (dv 3) af)))))))) (fun _ _ _=>rfl) rfl rfl rfl nofun (by walk_at "cl") (cC rfl) rfl (el ⟨bQ,⟨bQ,⟨bQ,⟨bQ,trivial⟩⟩⟩⟩)) (cU (lO (N':=(["_law_d","_law_bad","_law_none","_law_x","_law_y"]:List Str)) (cap:=[some 1,some 6,some 7,some 9,some 10]) gJ (fun A' outer' s' H' fa c1 E hrL=>(cV (cK gK (hrL.mono ⋯) rfl T.mZ T.mj T.mw eX (aa (dv 0) (aa (dv 1) (aa (dv 2) (aa (dv 3) (aa (dv 4) af)))))))) (fun _ _ _=>rfl) rfl rfl rfl nofun (by walk_at "cl") (cC rfl) rfl (el ⟨bQ,⟨bQ,⟨bQ,⟨bQ,⟨bQ,trivial⟩⟩⟩⟩⟩)) (cU (lO (N':=(["_law_d","_law_kinds_here","_law_none","_law_nought"]:List Str)) (cap:=[some 1,some 2,some 7,some 4]) lP (fun A' outer' s' H' fa c1 E hrL=>(cV (cK hJ (hrL.mono ⋯) rfl T.mZ T.mj T.mw eX (aa (dv 0) (aa (dv 1) (aa (dv 2) (aa (dv 3) (aa (dv 3) af)))))))) (fun _ _ _=>rfl) rfl rfl rfl nofun (by walk_at "cl") (cC rfl) rfl (el ⟨bQ,⟨bQ,⟨bQ,⟨bQ,trivial⟩⟩⟩⟩)) (cU (lO (N':=(["_law_d","_law_kinds_here","_law_none","_law_x","_law_y"]:List Str)) (cap:=[some 1,some 2,some 7,some 9,some 10]) lP (fun A' outer' s' H' fa c1 E hrL=>(cV (cK hJ (hrL.mono ⋯) rfl T.mZ T.mj T.mw eX (aa (dv 0) (aa (dv 1) (aa (dv 2) (aa (dv 3) (aa (dv 4) af)))))))) (fun _ _ _=>rfl) rfl rfl rfl nofun (by walk_at "cl") (cC rfl) rfl (el ⟨bQ,⟨bQ,⟨bQ,⟨bQ,⟨bQ,trivial⟩⟩⟩⟩⟩)) (cU (lO (N':=(["_law_d","_law_kinds_here","_law_plan_here","_law_x","_law_nought"]:List Str)) (cap:=[some 1,some 2,some 3,some 9,some 4]) sG (fun A' outer' s' H' fa c1 E hrL=>(cV (cK fw (hrL.mono ⋯) rfl T.mZ T.mj T.mw eX (aa (dv 0) (aa (dv 1) (aa (dv 2) (aa (dv 3) (aa (dv 4) af)))))))) (fun _ _ _=>rfl) rfl rfl rfl nofun (by walk_at "cl") (cC rfl) rfl (el ⟨bQ,⟨bQ,⟨bQ,⟨bQ,⟨bQ,trivial⟩⟩⟩⟩⟩)) (cU (lO (N':=(["_law_d","_law_kinds_here","_law_plan_here","_law_nought","_law_y"]:List Str)) (cap:=[some 1,some 2,some 3,some 4,some 10]) sG (fun A' outer' s' H' fa c1 E hrL=>(cV (cK fw (hrL.mono ⋯) rfl T.mZ T.mj T.mw eX (aa (dv 0) (aa (dv 1) (aa (dv 2) (aa (dv 3) (aa (dv 4) af)))))))) (fun _ _ _=>rfl) rfl rfl rfl nofun (by walk_at "cl") (cC rfl) rfl (el ⟨bQ,⟨bQ,⟨bQ,⟨bQ,⟨bQ,trivial⟩⟩⟩⟩⟩)) (cU (lO (N':=(["_law_d","_law_kinds_here","_law_plan_here","_law_x","_law_y"]:List Str)) (cap:=[some 1,some 2,some 3,some 9,some 10]) sG (fun A' outer' s' H' fa c1 E hrL=>(cV (cK fw (hrL.mono ⋯) rfl T.mZ T.mj T.mw eX (aa (dv 0) (aa (dv 1) (aa (dv 2) (aa (dv 3) (aa (dv 4) af)))))))) (fun _ _ _=>rfl) rfl rfl rfl nofun (by walk_at "cl") (cC rfl) rfl (el ⟨bQ,⟨bQ,⟨bQ,⟨bQ,⟨bQ,trivial⟩⟩⟩⟩⟩)) (cU (lO (N':=(["_law_d","_law_bad","_law_plan_here","_law_one"]:List Str)) (cap:=[some 1,some 6,some 3,some 5]) gJ (fun A' outer' s' H' fa c1 E hrL=>(cV (cK fO (hrL.mono ⋯) rfl T.nD T.mm T.l7 eX (aa (dv 0) (aa (dv 1) (aa (dv 2) (aa (dv 3) af))))))) (fun _ _ _=>rfl) rfl rfl rfl nofun (by walk_at "cl") (cC rfl) rfl (el ⟨bQ,⟨bQ,⟨bQ,⟨bQ,trivial⟩⟩⟩⟩)) (cU (lO (N':=(["_law_d","_law_bad","_law_none","_law_width"]:List Str)) (cap:=[some 1,some 6,some 7,some 11]) gJ (fun A' outer' s' H' fa c1 E hrL=>(cV (cK fO (hrL.mono ⋯) rfl T.nD T.mm T.l7 eX (aa (dv 0) (aa (dv 1) (aa (dv 2) (aa (dv 3) af))))))) (fun _ _ _=>rfl) rfl rfl rfl nofun (by walk_at "cl") (cC rfl) rfl (el ⟨bQ,⟨bQ,⟨bQ,⟨bQ,trivial⟩⟩⟩⟩)) (cU (lO (N':=(["_law_d","_law_kinds_here","_law_none","_law_width"]:List Str)) (cap:=[some 1,some 2,some 7,some 11]) lP (fun A' outer' s' H' fa c1 E hrL=>(cV (cK jy (hrL.mono ⋯) rfl T.nD T.mm T.l7 eX (aa (dv 0) (aa (dv 1) (aa (dv 2) (aa (dv 3) af))))))) (fun _ _ _=>rfl) rfl rfl rfl nofun (by walk_at "cl") (cC rfl) rfl (el ⟨bQ,⟨bQ,⟨bQ,⟨bQ,trivial⟩⟩⟩⟩)) (cU (lO (N':=(["_law_d","_law_kinds_here","_law_plan_here","_law_width"]:List Str)) (cap:=[some 1,some 2,some 3,some 11]) rj (fun A' outer' s' H' fa c1 E hrL=>(cV (cK fD (hrL.mono ⋯) rfl T.nD T.mm T.l7 eX (aa (dv 0) (aa (dv 1) (aa (dv 2) (aa (dv 3) af))))))) (fun _ _ _=>rfl) rfl rfl rfl nofun (by walk_at "cl") (cC rfl) rfl (el ⟨bQ,⟨bQ,⟨bQ,⟨bQ,trivial⟩⟩⟩⟩)) (cU (lO (N':=(["_law_d","_law_kinds_here","_law_great","_law_width"]:List Str)) (cap:=[some 1,some 2,some 12,some 11]) rj (fun A' outer' s' H' fa c1 E hrL=>(cV (cK fD (hrL.mono ⋯) rfl T.nD T.mm T.l7 eX (aa (dv 0) (aa (dv 1) (aa (dv 2) (aa (dv 3) af))))))) (fun _ _ _=>rfl) rfl rfl rfl nofun (by walk_at "cl") (cC rfl) rfl (el ⟨bQ,⟨bQ,⟨bQ,⟨bQ,trivial⟩⟩⟩⟩)) (cU (lO (N':=(["_law_d","_law_kinds_here","_law_great","_law_one"]:List Str)) (cap:=[some 1,some 2,some 12,some 5]) yV (fun A' outer' s' H' fa c1 E hrL=>(cV (cK iX (hrL.mono ⋯) rfl T.nD T.mm T.l7 eX (aa (dv 0) (aa (dv 1) (aa (dv 2) (aa (dv 3) af))))))) (fun _ _ _=>rfl) rfl rfl rfl nofun (by walk_at "cl") (cC rfl) rfl (el ⟨bQ,⟨bQ,⟨bQ,⟨bQ,trivial⟩⟩⟩⟩)) Qj)))))))))))))))))) (hr.mono ⋯) ⋯ rfl T.E2 T.Fy T.D9 rfl (Or.inl rfl)) (dv 0) (aM _))) rfl nofun rfl nofun (by walk_at "cl") (cC rfl) rfl (eS trivial) rfl) af)))))))))),fun ds U Qd h=>xD _ _ _ _ _ _ _ _ _ _ _ _ _ _ _ _ _ _ h⟩)
theorem U8:aN ["_law_script","_law_k","_law_bag_here","_law_d","_law_kinds_here","_law_plan_here","_law_turn"] ["_law_script"] (aC xT):=by walk_at "s"
theorem Wl(T:TX e)(yH:CI e)(vZ:AJ e)(uS:xW e)(wc:Ay e)(js:pk e)(jx:pq e)(zd:CO e)(dM:xU e):Qn e:=by
 have S:=U8
 exact T.WG.okD S (fun ds U Q h=>Pp h) (fun cdv A outer s H E hr=>⟨Mc,(aj (wI PassesOwn.never rfl (xB rfl T.uF (aa (US rfl rfl T.TV (aa ah (aa (Qt rfl rfl T.PY (aa ah (aa (cH rfl T.dD (aa (dv 0) af)) af))) af))) af)) (aV (i:=1) S.nd rfl (Or.inl rfl)) (aj (aT (i:=2) S.nd rfl (Or.inl rfl) (ak yH (hr.mono ⋯) rfl T.NK T.NG T.Ml (aa (dv 0) (aa (dv 1) af))))
  (aj (aT (i:=3) S.nd rfl (Or.inl rfl) (ak vZ (hr.mono ⋯) rfl T.Ko T.J6 T.LF (aa (dv 2) af)))
  (aj (aT (i:=4) S.nd rfl (Or.inl rfl) (ak uS (hr.mono ⋯) rfl T.Ij T.Ju T.Jo (aa (dv 2) (aa (dv 3) af))))
  (aj (aT (i:=5) S.nd rfl (Or.inl rfl) (ak wc (hr.mono ⋯) rfl T.LY T.Lx T.Kh (aa (dv 2) (aa (cH rfl T.dD (aa (dv 4) af)) af))))
  (aj (aT (i:=4) S.nd rfl (Or.inl rfl) (ak js (hr.mono ⋯) rfl T.yr T.yx T.yv (aa (dv 2) (aa (dv 3) (aa (dv 4) (aa (dv 5) af))))))
  (aj (wI PassesOwn.never rfl (xB rfl T.uF (aa ah af)) (aV (i:=6) S.nd rfl (Or.inl rfl)) (av (bY (fW (cO (ak jx (hr.mono ⋯) rfl T.yD T.yL T.yf (aa (dv 2) (aa (dv 3) (aa (dv 4) (aa (dv 5) af))))))) (av (aJ kM)) br)))
  (av (bY (aZ (yc hr.units) bI (ak zd (hr.mono ⋯) rfl T.ui T.uM T.u6 (aa (dv 3) (aa (dv 4) (aa (dv 5) af)))) (ak dM (hr.mono ⋯) rfl T.kE T.kh T.k6 (aa (dv 3) (aa (dv 4) (aa (dv 5) af)))) (aM _)) (av (aJ kM)) br)))))))))
  (av (aJ kM))),fun ds U Qd h=>Vv h⟩)
theorem Vt(T:TX e):Qn e:=by
 have eO:=LJ T
 have iK:=zE T
 have fi:=BS T
 have bc:=LC T
 have yH:=KH T
 have aq:=IK T
 have aD:=Bh T
 have en:=FI T
 have cY:=Gv T
 have jY:=Ig T
 have bT:=C1 T
 have eD:=Al T iK
 have B8:=Ni T fi
 have mU:=J8 T fi
 have tV:=LB T eO
 have aU:=LW T en
 have mq:=zB T aD en
 have vZ:=Iq T aq
 have bW:=Lc T aq
 have iG:=zC T aq
 have il:=JB T eO eD
 have cx:=O0 T eD
 have ze:=KY T tV eO
 have ie:=Ir T aU
 have bG:=Ge T aU
 have bg:=BQ T aU
 have rO:=Ey T aq aU
 have wc:=IP T aq iG
 have qa:=C0 T bW mq
 have yz:=gM T cx
 have fJ:=eR T cx
 have cA:=j0 T cx
 have cJ:=yQ T il B8
 have pP:=M7 T ze bc
 have gI:=GA T rO jY aq cY
 have cG:=Lb T ie
 have qg:=CT T aq bG aU
 have dm:=j7 T cJ
 have gC:=sR T cJ
 have xf:=JI T yz
 have nG:=Ks T cJ
 have bB:=tN T pP
 have cD:=C3 T pP
 have dA:=OK T yz
 have uS:=GF T gI aq bg bG aU
 have ey:=zZ T gI bW cY aq
 have jm:=A4 T qg cY ie aU qa aq
 have bq:=qM T nG
 have aW:=Bp T nG
 have xi:=HV T xf mU
 have nE:=Aq T aq ey
 have g8:=tX T bq
 have hV:=vA T aW bB
 have gG:=sP T il xi
 have qE:=Kt T bc
 have eK:=Am T bW aq bT
 have fO:=wF T bq
 have jy:=xE T aW bB
 have fD:=vx T aW cD dm
 have iX:=wq T aW cD gC qE
 have dM:=GP T bg bG aU cG
 have jM:=Me T bc cA fJ cx dA
 have fR:=wk T bq
 have jI:=xR T aW bB
 have zd:=J4 T aW cD jM
 have gK:=xM T bq
 have hJ:=x5 T aW bB
 have fw:=zk T aW cD jM gG
 have rj:=Jp T
 have gJ:=KL T
 have lP:=Mv T
 have sG:=Nd T
 have yV:=LH T
 have dw:=Bb T aD
 have nu:=AS T dw
 have js:=xQ T dw aU aq cY jY
 have lU:=zV T eK nu
 have jx:=xH T nE lU dM jm ey aq gJ fR lP jI g8 hV gK hJ sG fw fO jy rj fD yV iX
 exact Wl T yH vZ uS wc js jx zd dM
end
theorem all_mk{l:PySem.W.OpenLaw}{w:World}{K:PySem.W.Frag}{h:Heap}{mg:Str->Option Value}{fa:Addr}(X:K.In h)(G:h.Ns mainGlobals mg)(hfa:mg "law"=some (.ref fa))
  {f0 c0 f1 c1 f2 c2 f3 c3 f4 c4 f5 c5 f6 c6 f7 c7 f8 c8 f9 c9 f10 c10 f11 c11 f12 c12 f13 c13 f14 c14 f15 c15 f16 c16 f17 c17 f18 c18 f19 c19 f20 c20 f21 c21 f22 c22 f23 c23 f24 c24 f25 c25 f26 c26 f27 c27 f28 c28 f29 c29 f30 c30 f31 c31 f32 c32 f33 c33 f34 c34 f35 c35 f36 c36 f37 c37 f38 c38 f39 c39 f40 c40 f41 c41 f42 c42 f43 c43 f44 c44 f45 c45 f46 c46 f47 c47 f48 c48 f49 c49 f50 c50 f51 c51 f52 c52 f53 c53 f54 c54 f55 c55 f56 c56 f57 c57 f58 c58 f59 c59 f60 c60 f61 c61 f62 c62 f63 c63:Addr} {t0 t1 t2 t3 t4 t5 t6 t7 t8 t9 t10 t11 t12 t13 t14 t15 t16 t17 t18 t19 t20 t21 t22 t23 t24 t25 t26 t27 t28 t29 t30 t31 t32 t33 t34 t35 t36 t37 t38 t39 t40 t41 t42 t43 t44 t45 t46 t47 t48 t49 t50 t51 t52 t53 t54 t55 t56 t57 t58 t59 t60 t61 t62 t63:Tok} {m0 m1 m2 m3 m4 m5 m6 m7 m8 m9 m10 m11 m12 m13 m14 m15 m16 m17 m18 m19 m20 m21 m22 m23 m24 m25 m26 m27 m28 m29 m30 m31 m32 m33 m34 m35 m36 m37 m38 m39 m40 m41 m42 m43 m44 m45 m46 m47 m48 m49 m50 m51 m52 m53 m54 m55 m56 m57 m58 m59 m60 m61 m62 m63:Str} {q0:Tok} {q1:Tok} {q2:Tok} {q3:Tok} {q4:Tok} {q5:Tok} {g6:Addr} {go6:Option Addr} {q6a q6b q6c:Tok} {gn6:Nat} {gs6:Array (Option Value)} {g7:Addr} {go7:Option Addr} {q7a q7b q7c:Tok} {gn7:Nat} {gs7:Array (Option Value)} {cu:Addr} {d6:Addr} {aE:Addr} {cT:Addr} {dW:Addr} {fE:Addr} {aG:Addr} {aK:Addr} {aL:Addr} {fM:Addr} {dY:Addr} {cR:Addr} {d7:Addr} {aH:Addr} {bm:Addr} {bsl:Array (Option Value)} {dr eQ:Addr}
  (a0:FQ K "is_whole" nz f0 c0 t0 m0)
  (a1:FQ K "common_divisor" eu f1 c1 t1 m1)
  (a2:FQ K "is_number" jN f2 c2 t2 m2)
  (a3:FQ K "divisor_of_all" eM f3 c3 t3 m3)
  (a4:FQ K "number" sJ f4 c4 t4 m4)
  (a5:FQ K "plus" BB f5 c5 t5 m5)
  (a6:FQ K "times" xA f6 c6 t6 m6)
  (a7:FQ K "contrary" mn f7 c7 t7 m7)
  (a8:FQ K "sign_of" pQ f8 c8 t8 m8)
  (a9:FQ K "sign_of_parts" fu f9 c9 t9 m9)
  (a10:FQ K "is_above" nj f10 c10 t10 m10)
  (a11:FQ K "is_above_nought" dX f11 c11 t11 m11)
  (a12:FQ K "must_be_above_nought" cM f12 c12 t12 m12)
  (a13:FQ K "bounds_of" jX f13 c13 t13 m13)
  (a14:FQ K "is_kinds" lX f14 c14 t14 m14)
  (a15:FQ K "must_be_kinds" fv f15 c15 t15 m15)
  (a16:FQ K "is_plan" pW f16 c16 t16 m16)
  (a17:FQ K "has_form" mP f17 c17 t17 m17)
  (a18:FQ K "is_count" nF f18 c18 t18 m18)
  (a19:FQ K "parts_of" ml f19 c19 t19 m19)
  (a20:FQ K "must_be_plan" gj f20 c20 t20 m20)
  (a21:FQ K "shape_of" lY f21 c21 t21 m21)
  (a22:FQ K "mate_shape" ir f22 c22 t22 m22)
  (a23:FQ K "made_of" pU f23 c23 t23 m23)
  (a24:FQ K "sum_of" tf f24 c24 t24 m24)
  (a25:FQ K "tiles_in" mi f25 c25 t25 m25)
  (a26:FQ K "tile_at" pV f26 c26 t26 m26)
  (a27:FQ K "must_be_spot" fZ f27 c27 t27 m27)
  (a28:FQ K "begins_at" jR f28 c28 t28 m28)
  (a29:FQ K "laid_out" nA f29 c29 t29 m29)
  (a30:FQ K "_law_bag" nB f30 c30 t30 m30)
  (a31:FQ K "_law_take" jL f31 c31 t31 m31)
  (a32:FQ K "_law_is_whole" fq f32 c32 t32 m32)
  (a33:FQ K "_law_shared" gW f33 c33 t33 m33)
  (a34:FQ K "_law_low" l4 f34 c34 t34 m34)
  (a35:FQ K "_law_is_number" eJ f35 c35 t35 m35)
  (a36:FQ K "_law_plus" jV f36 c36 t36 m36)
  (a37:FQ K "_law_minus" iq f37 c37 t37 m37)
  (a38:FQ K "_law_times" iJ f38 c38 t38 m38)
  (a39:FQ K "_law_contrary" fj f39 c39 t39 m39)
  (a40:FQ K "_law_sign" jS f40 c40 t40 m40)
  (a41:FQ K "_law_root" jZ f41 c41 t41 m41)
  (a42:FQ K "_law_number" gU f42 c42 t42 m42)
  (a43:FQ K "_law_above" iw f43 c43 t43 m43)
  (a44:FQ K "_law_odd" ny f44 c44 t44 m44)
  (a45:FQ K "_law_refusal" gc f45 c45 t45 m45)
  (a46:FQ K "_law_kinds" iH f46 c46 t46 m46)
  (a47:FQ K "_law_bad_above" eE f47 c47 t47 m47)
  (a48:FQ K "_law_bad_kinds" eC f48 c48 t48 m48)
  (a49:FQ K "_law_grid_size" eL f49 c49 t49 m49)
  (a50:FQ K "_law_plan" jP f50 c50 t50 m50)
  (a51:FQ K "_law_sum" lR f51 c51 t51 m51)
  (a52:FQ K "_law_shape" iC f52 c52 t52 m52)
  (a53:FQ K "_law_plans_in" fm f53 c53 t53 m53)
  (a54:FQ K "_law_is_a_plan" eo f54 c54 t54 m54)
  (a55:FQ K "_law_part_of" gr f55 c55 t55 m55)
  (a56:FQ K "_law_swapped" gh f56 c56 t56 m56)
  (a57:FQ K "_law_bent_plan" eG f57 c57 t57 m57)
  (a58:FQ K "_law_none_plan" eI f58 c58 t58 m58)
  (a59:FQ K "_law_few_figures" dG f59 c59 t59 m59)
  (a60:FQ K "_law_bad_spot" fk f60 c60 t60 m60)
  (a61:FQ K "_law_bad_odd" gk f61 c61 t61 m61)
  (a62:FQ K "_law_are_refused" dF f62 c62 t62 m62)
  (a63:FQ K "law" xT f63 c63 t63 m63)
  (z0:nsIn K mainGlobals "isinstance"=some none)
  (z1:nsIn K mainGlobals "int"=some none)
  (z2:nsIn K mainGlobals "bool"=some none)
  (z3:nsIn K mainGlobals "abs"=some none)
  (z4:nsIn K mainGlobals "tuple"=some none)
  (z5:nsIn K mainGlobals "len"=some none)
  (z6:nsIn K mainGlobals "all"=some none)
  (z7:nsIn K mainGlobals "list"=some none)
  (z8:nsIn K mainGlobals "sum"=some none)
  (z9:nsIn K mainGlobals "range"=some none)
  (z10:nsIn K mainGlobals "ValueError"=some none)
  (z11:nsIn K mainGlobals "min"=some none)
  (z12:nsIn K mainGlobals "max"=some none)
  (v0:nsIn K mainGlobals "MOST_KINDS"=some (some (.int 3 q0)))
  (v1:nsIn K mainGlobals "MOST_WITHIN"=some (some (.int 12 q1)))
  (v2:nsIn K mainGlobals "MOST_PLANS"=some (some (.int 60 q2)))
  (v3:nsIn K mainGlobals "LEAST_PARTS"=some (some (.int 2 q3)))
  (v4:nsIn K mainGlobals "MOST_PARTS"=some (some (.int 8 q4)))
  (v5:nsIn K mainGlobals "MOST_TILES"=some (some (.int 60 q5)))
  (v6:nsIn K mainGlobals "NOUGHT"=some (some (.ref g6))) (w6:K.lookup g6=some ⟨.type "tuple",go6,.seq #[.int 0 q6a,.int 0 q6b,.int 1 q6c] gn6,gs6⟩)
  (v7:nsIn K mainGlobals "ONE"=some (some (.ref g7))) (w7:K.lookup g7=some ⟨.type "tuple",go7,.seq #[.int 1 q7a,.int 0 q7b,.int 1 q7c] gn7,gs7⟩)
  (y0:nsIn K mainGlobals "FloorError"=some (some (.ref cu)))
  (y1:nsIn K mainGlobals "NoRoot"=some (some (.ref d6)))
  (y2:nsIn K mainGlobals "NoNumber"=some (some (.ref aE)))
  (y3:nsIn K mainGlobals "NoLaying"=some (some (.ref cT)))
  (y4:nsIn K mainGlobals "NoTile"=some (some (.ref dW)))
  (y5:nsIn K mainGlobals "NoFit"=some (some (.ref fE)))
  (y6:nsIn K mainGlobals "NoKinds"=some (some (.ref aG)))
  (y7:nsIn K mainGlobals "NoPlan"=some (some (.ref aK)))
  (y8:nsIn K mainGlobals "NoSpot"=some (some (.ref aL)))
  (y9:nsIn K mainGlobals "NoNet"=some (some (.ref fM)))
  (y10:nsIn K mainGlobals "NoText"=some (some (.ref dY)))
  (y11:nsIn K mainGlobals "NoSaying"=some (some (.ref cR)))
  (y12:nsIn K mainGlobals "NoName"=some (some (.ref d7)))
  (y13:nsIn K mainGlobals "TooMany"=some (some (.ref aH)))
  (yq:excIn K (aE) bmV "ValueError.__new__"=true)
  (zh:exmOne K (.ref aE) (.ref cu)=some true)
  (z1_NoNumber:findIn K (.ref aE) "__getattribute__"=some (some (.builtin "BaseException.__getattribute__")))
  (z2_NoNumber:findIn K (.ref aE) "__getattr__"=some none)
  (z3_NoNumber:findIn K (.ref aE) "__class__"=some (some (.builtin "object.__class__")))
  (z4_NoNumber:mroIn K aE (.type "object")=some true)
  (z5_NoNumber:mroIn K aE (.type "BaseException")=some true)
  (z6_NoNumber:(clsIn K aE).isSome=true)
  (ly:kitOne K (.ref aE) (.ref d6)=some false)
  (i4:kitOne K (.ref aE) (.ref aE)=some true)
  (iZ:kitOne K (.ref aE) (.ref cT)=some false)
  (kT:kitOne K (.ref aE) (.ref dW)=some false)
  (nr:kitOne K (.ref aE) (.ref fE)=some false)
  (ju:kitOne K (.ref aE) (.ref aG)=some false)
  (kH:kitOne K (.ref aE) (.ref aK)=some false)
  (kI:kitOne K (.ref aE) (.ref aL)=some false)
  (mM:kitOne K (.ref aE) (.ref fM)=some false)
  (ky:kitOne K (.ref aE) (.ref dY)=some false)
  (iU:kitOne K (.ref aE) (.ref cR)=some false)
  (kU:kitOne K (.ref aE) (.ref d7)=some false)
  (jr:kitOne K (.ref aE) (.ref aH)=some false)
  (uO:kitOne K (.ref aE) (.type "ValueError")=some true)
  (Br:excIn K (aG) bmV "ValueError.__new__"=true)
  (BH:exmOne K (.ref aG) (.ref cu)=some true)
  (z1_NoKinds:findIn K (.ref aG) "__getattribute__"=some (some (.builtin "BaseException.__getattribute__")))
  (z2_NoKinds:findIn K (.ref aG) "__getattr__"=some none)
  (z3_NoKinds:findIn K (.ref aG) "__class__"=some (some (.builtin "object.__class__")))
  (z4_NoKinds:mroIn K aG (.type "object")=some true)
  (z5_NoKinds:mroIn K aG (.type "BaseException")=some true)
  (z6_NoKinds:(clsIn K aG).isSome=true)
  (lT:kitOne K (.ref aG) (.ref d6)=some false)
  (jC:kitOne K (.ref aG) (.ref aE)=some false)
  (jo:kitOne K (.ref aG) (.ref cT)=some false)
  (l5:kitOne K (.ref aG) (.ref dW)=some false)
  (oU:kitOne K (.ref aG) (.ref fE)=some false)
  (k9:kitOne K (.ref aG) (.ref aG)=some true)
  (mQ:kitOne K (.ref aG) (.ref aK)=some false)
  (lQ:kitOne K (.ref aG) (.ref aL)=some false)
  (oY:kitOne K (.ref aG) (.ref fM)=some false)
  (mT:kitOne K (.ref aG) (.ref dY)=some false)
  (jz:kitOne K (.ref aG) (.ref cR)=some false)
  (mV:kitOne K (.ref aG) (.ref d7)=some false)
  (ko:kitOne K (.ref aG) (.ref aH)=some false)
  (vX:kitOne K (.ref aG) (.type "ValueError")=some true)
  (Ef:excIn K (aK) bmV "ValueError.__new__"=true)
  (Eu:exmOne K (.ref aK) (.ref cu)=some true)
  (z1_NoPlan:findIn K (.ref aK) "__getattribute__"=some (some (.builtin "BaseException.__getattribute__")))
  (z2_NoPlan:findIn K (.ref aK) "__getattr__"=some none)
  (z3_NoPlan:findIn K (.ref aK) "__class__"=some (some (.builtin "object.__class__")))
  (z4_NoPlan:mroIn K aK (.type "object")=some true)
  (z5_NoPlan:mroIn K aK (.type "BaseException")=some true)
  (z6_NoPlan:(clsIn K aK).isSome=true)
  (o4:kitOne K (.ref aK) (.ref d6)=some false)
  (kJ:kitOne K (.ref aK) (.ref aE)=some false)
  (lE:kitOne K (.ref aK) (.ref cT)=some false)
  (pd:kitOne K (.ref aK) (.ref dW)=some false)
  (qc:kitOne K (.ref aK) (.ref fE)=some false)
  (mE:kitOne K (.ref aK) (.ref aG)=some false)
  (pb:kitOne K (.ref aK) (.ref aK)=some true)
  (oN:kitOne K (.ref aK) (.ref aL)=some false)
  (p7:kitOne K (.ref aK) (.ref fM)=some false)
  (oj:kitOne K (.ref aK) (.ref dY)=some false)
  (lq:kitOne K (.ref aK) (.ref cR)=some false)
  (o3:kitOne K (.ref aK) (.ref d7)=some false)
  (lV:kitOne K (.ref aK) (.ref aH)=some false)
  (yd:kitOne K (.ref aK) (.type "ValueError")=some true)
  (E8:excIn K (aL) bmV "ValueError.__new__"=true)
  (D4:exmOne K (.ref aL) (.ref cu)=some true)
  (z1_NoSpot:findIn K (.ref aL) "__getattribute__"=some (some (.builtin "BaseException.__getattribute__")))
  (z2_NoSpot:findIn K (.ref aL) "__getattr__"=some none)
  (z3_NoSpot:findIn K (.ref aL) "__class__"=some (some (.builtin "object.__class__")))
  (z4_NoSpot:mroIn K aL (.type "object")=some true)
  (z5_NoSpot:mroIn K aL (.type "BaseException")=some true)
  (z6_NoSpot:(clsIn K aL).isSome=true)
  (oK:kitOne K (.ref aL) (.ref d6)=some false)
  (kY:kitOne K (.ref aL) (.ref aE)=some false)
  (kC:kitOne K (.ref aL) (.ref cT)=some false)
  (oq:kitOne K (.ref aL) (.ref dW)=some false)
  (qG:kitOne K (.ref aL) (.ref fE)=some false)
  (ma:kitOne K (.ref aL) (.ref aG)=some false)
  (oB:kitOne K (.ref aL) (.ref aK)=some false)
  (oW:kitOne K (.ref aL) (.ref aL)=some true)
  (ql:kitOne K (.ref aL) (.ref fM)=some false)
  (oE:kitOne K (.ref aL) (.ref dY)=some false)
  (lC:kitOne K (.ref aL) (.ref cR)=some false)
  (ou:kitOne K (.ref aL) (.ref d7)=some false)
  (md:kitOne K (.ref aL) (.ref aH)=some false)
  (ym:kitOne K (.ref aL) (.type "ValueError")=some true)
  (BM:excIn K (aH) bmV "ValueError.__new__"=true)
  (Bz:exmOne K (.ref aH) (.ref cu)=some true)
  (z1_TooMany:findIn K (.ref aH) "__getattribute__"=some (some (.builtin "BaseException.__getattribute__")))
  (z2_TooMany:findIn K (.ref aH) "__getattr__"=some none)
  (z3_TooMany:findIn K (.ref aH) "__class__"=some (some (.builtin "object.__class__")))
  (z4_TooMany:mroIn K aH (.type "object")=some true)
  (z5_TooMany:mroIn K aH (.type "BaseException")=some true)
  (z6_TooMany:(clsIn K aH).isSome=true)
  (lW:kitOne K (.ref aH) (.ref d6)=some false)
  (jt:kitOne K (.ref aH) (.ref aE)=some false)
  (jA:kitOne K (.ref aH) (.ref cT)=some false)
  (mS:kitOne K (.ref aH) (.ref dW)=some false)
  (oI:kitOne K (.ref aH) (.ref fE)=some false)
  (ll:kitOne K (.ref aH) (.ref aG)=some false)
  (mv:kitOne K (.ref aH) (.ref aK)=some false)
  (lS:kitOne K (.ref aH) (.ref aL)=some false)
  (oP:kitOne K (.ref aH) (.ref fM)=some false)
  (mz:kitOne K (.ref aH) (.ref dY)=some false)
  (jv:kitOne K (.ref aH) (.ref cR)=some false)
  (mC:kitOne K (.ref aH) (.ref d7)=some false)
  (kd:kitOne K (.ref aH) (.ref aH)=some true)
  (vH:kitOne K (.ref aH) (.type "ValueError")=some true)
  (bb1:nsIn K mainGlobals "__builtins__"=some (some (.ref bm))) (bb2:bm≠builtinsNs) (bb3:K.lookup bm=some ⟨.type "module",some builtinsNs,.plain,bsl⟩)
  (lo__law_are_refused:(K.lookup dr).bind cX=some (eQ,("_law_are_refused":Str))) (l1__law_are_refused:∀c2 o2 q2,K.lookup c2=some o2->cX o2=some (eQ,q2)->q2 = "_law_are_refused") (lc__law_are_refused:c62=dr) :
  ∃fd:FuncData,(∀(s:Shared) (v:Value),BindsTo s fd ⟨[v],[]⟩ [("_law_script",v)])/\∀base:Heap,K.In base->base.Ns mainGlobals mg->bO l.prog w K mg base CX0 37 fa fd ["_law_script"] (spD K Fl):=by
 have e:=hfa.symm.trans (mg_of X G a63.1)
 cases e
 have F0:=bC (st:=nz) a0.2.1 a0.2.2.1 a0.2.2.2
 have b0:=F0.binds (ps:=["thing"]) (by walk_at "b")
 have F1:=bC (st:=eu) a1.2.1 a1.2.2.1 a1.2.2.2
 have b1:=F1.binds (ps:=["a","b"]) (by walk_at "b")
 have F2:=bC (st:=jN) a2.2.1 a2.2.2.1 a2.2.2.2
 have b2:=F2.binds (ps:=["thing"]) (by walk_at "b")
 have F3:=bC (st:=eM) a3.2.1 a3.2.2.1 a3.2.2.2
 have b3:=F3.binds (ps:=["a","b","c"]) (by walk_at "b")
 have F4:=bC (st:=sJ) a4.2.1 a4.2.2.1 a4.2.2.2
 have b4:=F4.binds (ps:=["a","b","c"]) (by walk_at "b")
 have F5:=bC (st:=BB) a5.2.1 a5.2.2.1 a5.2.2.2
 have b5:=F5.binds (ps:=["x","y"]) (by walk_at "b")
 have F6:=bC (st:=xA) a6.2.1 a6.2.2.1 a6.2.2.2
 have b6:=F6.binds (ps:=["d","x","y"]) (by walk_at "b")
 have F7:=bC (st:=mn) a7.2.1 a7.2.2.1 a7.2.2.2
 have b7:=F7.binds (ps:=["d","x"]) (by walk_at "b")
 have F8:=bC (st:=pQ) a8.2.1 a8.2.2.1 a8.2.2.2
 have b8:=F8.binds (ps:=["d","x"]) (by walk_at "b")
 have F9:=bC (st:=fu) a9.2.1 a9.2.2.1 a9.2.2.2
 have b9:=F9.binds (ps:=["d","a","b"]) (by walk_at "b")
 have F10:=bC (st:=nj) a10.2.1 a10.2.2.1 a10.2.2.2
 have b10:=F10.binds (ps:=["d","x","y"]) (by walk_at "b")
 have F11:=bC (st:=dX) a11.2.1 a11.2.2.1 a11.2.2.2
 have b11:=F11.binds (ps:=["d","thing"]) (by walk_at "b")
 have F12:=bC (st:=cM) a12.2.1 a12.2.2.1 a12.2.2.2
 have b12:=F12.binds (ps:=["d","thing"]) (by walk_at "b")
 have F13:=bC (st:=jX) a13.2.1 a13.2.2.1 a13.2.2.2
 have b13:=F13.binds (ps:=["tile"]) (by walk_at "b")
 have F14:=bC (st:=lX) a14.2.1 a14.2.2.1 a14.2.2.2
 have b14:=F14.binds (ps:=["d","thing"]) (by walk_at "b")
 have F15:=bC (st:=fv) a15.2.1 a15.2.2.1 a15.2.2.2
 have b15:=F15.binds (ps:=["d","thing"]) (by walk_at "b")
 have F16:=bC (st:=pW) a16.2.1 a16.2.2.1 a16.2.2.2
 have b16:=F16.binds (ps:=["thing","many"]) (by walk_at "b")
 have F17:=bC (st:=mP) a17.2.1 a17.2.2.1 a17.2.2.2
 have b17:=F17.binds (ps:=["thing","many"]) (by walk_at "b")
 have F18:=bC (st:=nF) a18.2.1 a18.2.2.1 a18.2.2.2
 have b18:=F18.binds (ps:=["thing"]) (by walk_at "b")
 have F19:=bC (st:=ml) a19.2.1 a19.2.2.1 a19.2.2.2
 have b19:=F19.binds (ps:=["plan"]) (by walk_at "b")
 have F20:=bC (st:=gj) a20.2.1 a20.2.2.1 a20.2.2.2
 have b20:=F20.binds (ps:=["thing","many"]) (by walk_at "b")
 have F21:=bC (st:=lY) a21.2.1 a21.2.2.1 a21.2.2.2
 have b21:=F21.binds (ps:=["d","kinds","plan"]) (by walk_at "b")
 have F22:=bC (st:=ir) a22.2.1 a22.2.2.1 a22.2.2.2
 have b22:=F22.binds (ps:=["d","kinds","plan"]) (by walk_at "b")
 have F23:=bC (st:=pU) a23.2.1 a23.2.2.1 a23.2.2.2
 have b23:=F23.binds (ps:=["d","shapes","plan"]) (by walk_at "b")
 have F24:=bC (st:=tf) a24.2.1 a24.2.2.1 a24.2.2.2
 have b24:=F24.binds (ps:=["shapes"]) (by walk_at "b")
 have F25:=bC (st:=mi) a25.2.1 a25.2.2.1 a25.2.2.2
 have b25:=F25.binds (ps:=["plan"]) (by walk_at "b")
 have F26:=bC (st:=pV) a26.2.1 a26.2.2.1 a26.2.2.2
 have b26:=F26.binds (ps:=["d","kinds","plan","x","y"]) (by walk_at "b")
 have F27:=bC (st:=fZ) a27.2.1 a27.2.2.1 a27.2.2.2
 have b27:=F27.binds (ps:=["d","shape","x","y"]) (by walk_at "b")
 have F28:=bC (st:=jR) a28.2.1 a28.2.2.1 a28.2.2.2
 have b28:=F28.binds (ps:=["d","box","x","y"]) (by walk_at "b")
 have F29:=bC (st:=nA) a29.2.1 a29.2.2.1 a29.2.2.2
 have b29:=F29.binds (ps:=["d","kinds","plan","width"]) (by walk_at "b")
 have F30:=bC (st:=nB) a30.2.1 a30.2.2.1 a30.2.2.2
 have b30:=F30.binds (ps:=["_law_script","_law_at"]) (by walk_at "b")
 have F31:=bC (st:=jL) a31.2.1 a31.2.2.1 a31.2.2.2
 have b31:=F31.binds (ps:=["_law_bag_here","_law_many"]) (by walk_at "b")
 have F32:=bC (st:=fq) a32.2.1 a32.2.2.1 a32.2.2.2
 have b32:=F32.binds (ps:=["_law_thing"]) (by walk_at "b")
 have F33:=bC (st:=gW) a33.2.1 a33.2.2.1 a33.2.2.2
 have b33:=F33.binds (ps:=["_law_one","_law_other"]) (by walk_at "b")
 have F34:=bC (st:=l4) a34.2.1 a34.2.2.1 a34.2.2.2
 have b34:=F34.binds (ps:=["_law_a","_law_b","_law_c"]) (by walk_at "b")
 have F35:=bC (st:=eJ) a35.2.1 a35.2.2.1 a35.2.2.2
 have b35:=F35.binds (ps:=["_law_thing"]) (by walk_at "b")
 have F36:=bC (st:=jV) a36.2.1 a36.2.2.1 a36.2.2.2
 have b36:=F36.binds (ps:=["_law_x","_law_y"]) (by walk_at "b")
 have F37:=bC (st:=iq) a37.2.1 a37.2.2.1 a37.2.2.2
 have b37:=F37.binds (ps:=["_law_x"]) (by walk_at "b")
 have F38:=bC (st:=iJ) a38.2.1 a38.2.2.1 a38.2.2.2
 have b38:=F38.binds (ps:=["_law_d","_law_x","_law_y"]) (by walk_at "b")
 have F39:=bC (st:=fj) a39.2.1 a39.2.2.1 a39.2.2.2
 have b39:=F39.binds (ps:=["_law_d","_law_x"]) (by walk_at "b")
 have F40:=bC (st:=jS) a40.2.1 a40.2.2.1 a40.2.2.2
 have b40:=F40.binds (ps:=["_law_d","_law_x"]) (by walk_at "b")
 have F41:=bC (st:=jZ) a41.2.1 a41.2.2.1 a41.2.2.2
 have b41:=F41.binds (ps:=["_law_bag_here"]) (by walk_at "b")
 have F42:=bC (st:=gU) a42.2.1 a42.2.2.1 a42.2.2.2
 have b42:=F42.binds (ps:=["_law_bag_here"]) (by walk_at "b")
 have F43:=bC (st:=iw) a43.2.1 a43.2.2.1 a43.2.2.2
 have b43:=F43.binds (ps:=["_law_bag_here","_law_d"]) (by walk_at "b")
 have F44:=bC (st:=ny) a44.2.1 a44.2.2.1 a44.2.2.2
 have b44:=F44.binds (ps:=["_law_bag_here"]) (by walk_at "b")
 have F45:=bC (st:=gc) a45.2.1 a45.2.2.1 a45.2.2.2
 have b45:=F45.binds (ps:=["_law_deed"]) (by walk_at "b")
 have F46:=bC (st:=iH) a46.2.1 a46.2.2.1 a46.2.2.2
 have b46:=F46.binds (ps:=["_law_bag_here","_law_d"]) (by walk_at "b")
 have F47:=bC (st:=eE) a47.2.1 a47.2.2.1 a47.2.2.2
 have b47:=F47.binds (ps:=["_law_bag_here","_law_d"]) (by walk_at "b")
 have F48:=bC (st:=eC) a48.2.1 a48.2.2.1 a48.2.2.2
 have b48:=F48.binds (ps:=["_law_bag_here","_law_d","_law_kinds_here"]) (by walk_at "b")
 have F49:=bC (st:=eL) a49.2.1 a49.2.2.1 a49.2.2.2
 have b49:=F49.binds (ps:=["_law_bag_here"]) (by walk_at "b")
 have F50:=bC (st:=jP) a50.2.1 a50.2.2.1 a50.2.2.2
 have b50:=F50.binds (ps:=["_law_bag_here","_law_many"]) (by walk_at "b")
 have F51:=bC (st:=lR) a51.2.1 a51.2.2.1 a51.2.2.2
 have b51:=F51.binds (ps:=["_law_some"]) (by walk_at "b")
 have F52:=bC (st:=iC) a52.2.1 a52.2.2.1 a52.2.2.2
 have b52:=F52.binds (ps:=["_law_d","_law_kinds_here","_law_plan_here"]) (by walk_at "b")
 have F53:=bC (st:=fm) a53.2.1 a53.2.2.1 a53.2.2.2
 have b53:=F53.binds (ps:=["_law_thing","_law_many","_law_deep"]) (by walk_at "b")
 have F54:=bC (st:=eo) a54.2.1 a54.2.2.1 a54.2.2.2
 have b54:=F54.binds (ps:=["_law_thing","_law_many"]) (by walk_at "b")
 have F55:=bC (st:=gr) a55.2.1 a55.2.2.1 a55.2.2.2
 have b55:=F55.binds (ps:=["_law_bag_here","_law_d","_law_x"]) (by walk_at "b")
 have F56:=bC (st:=gh) a56.2.1 a56.2.2.1 a56.2.2.2
 have b56:=F56.binds (ps:=["_law_row","_law_at","_law_thing"]) (by walk_at "b")
 have F57:=bC (st:=eG) a57.2.1 a57.2.2.1 a57.2.2.2
 have b57:=F57.binds (ps:=["_law_bag_here","_law_plan_here","_law_many"]) (by walk_at "b")
 have F58:=bC (st:=eI) a58.2.1 a58.2.2.1 a58.2.2.2
 have b58:=F58.binds (ps:=["_law_bag_here","_law_plan_here","_law_many"]) (by walk_at "b")
 have F59:=bC (st:=dG) a59.2.1 a59.2.2.1 a59.2.2.2
 have b59:=F59.binds (ps:=["_law_bag_here","_law_d","_law_kinds_here","_law_plan_here"]) (by walk_at "b")
 have F60:=bC (st:=fk) a60.2.1 a60.2.2.1 a60.2.2.2
 have b60:=F60.binds (ps:=["_law_bag_here","_law_d","_law_end"]) (by walk_at "b")
 have F61:=bC (st:=gk) a61.2.1 a61.2.2.1 a61.2.2.2
 have b61:=F61.binds (ps:=["_law_bag_here"]) (by walk_at "b")
 have F62:=bC (st:=dF) a62.2.1 a62.2.2.1 a62.2.2.2
 have b62:=F62.binds (ps:=["_law_bag_here","_law_d","_law_kinds_here","_law_plan_here"]) (by walk_at "b")
 have F63:=bC (st:=xT) a63.2.1 a63.2.2.1 a63.2.2.2
 have b63:=F63.binds (ps:=["_law_script"]) (by walk_at "b")
 have T:Txt K mg ⟨f0,fd "is_whole" nz t0 m0 c0,f1,fd "common_divisor" eu t1 m1 c1,f2,fd "is_number" jN t2 m2 c2,f3,fd "divisor_of_all" eM t3 m3 c3,f4,fd "number" sJ t4 m4 c4,f5,fd "plus" BB t5 m5 c5,f6,fd "times" xA t6 m6 c6,f7,fd "contrary" mn t7 m7 c7,f8,fd "sign_of" pQ t8 m8 c8,f9,fd "sign_of_parts" fu t9 m9 c9,f10,fd "is_above" nj t10 m10 c10,f11,fd "is_above_nought" dX t11 m11 c11,f12,fd "must_be_above_nought" cM t12 m12 c12,f13,fd "bounds_of" jX t13 m13 c13,f14,fd "is_kinds" lX t14 m14 c14,f15,fd "must_be_kinds" fv t15 m15 c15,f16,fd "is_plan" pW t16 m16 c16,f17,fd "has_form" mP t17 m17 c17,f18,fd "is_count" nF t18 m18 c18,f19,fd "parts_of" ml t19 m19 c19,f20,fd "must_be_plan" gj t20 m20 c20,f21,fd "shape_of" lY t21 m21 c21,f22,fd "mate_shape" ir t22 m22 c22,f23,fd "made_of" pU t23 m23 c23,f24,fd "sum_of" tf t24 m24 c24,f25,fd "tiles_in" mi t25 m25 c25,f26,fd "tile_at" pV t26 m26 c26,f27,fd "must_be_spot" fZ t27 m27 c27,f28,fd "begins_at" jR t28 m28 c28,f29,fd "laid_out" nA t29 m29 c29,f30,fd "_law_bag" nB t30 m30 c30,f31,fd "_law_take" jL t31 m31 c31,f32,fd "_law_is_whole" fq t32 m32 c32,f33,fd "_law_shared" gW t33 m33 c33,f34,fd "_law_low" l4 t34 m34 c34,f35,fd "_law_is_number" eJ t35 m35 c35,f36,fd "_law_plus" jV t36 m36 c36,f37,fd "_law_minus" iq t37 m37 c37,f38,fd "_law_times" iJ t38 m38 c38,f39,fd "_law_contrary" fj t39 m39 c39,f40,fd "_law_sign" jS t40 m40 c40,f41,fd "_law_root" jZ t41 m41 c41,f42,fd "_law_number" gU t42 m42 c42,f43,fd "_law_above" iw t43 m43 c43,f44,fd "_law_odd" ny t44 m44 c44,f45,fd "_law_refusal" gc t45 m45 c45,f46,fd "_law_kinds" iH t46 m46 c46,f47,fd "_law_bad_above" eE t47 m47 c47,f48,fd "_law_bad_kinds" eC t48 m48 c48,f49,fd "_law_grid_size" eL t49 m49 c49,f50,fd "_law_plan" jP t50 m50 c50,f51,fd "_law_sum" lR t51 m51 c51,f52,fd "_law_shape" iC t52 m52 c52,f53,fd "_law_plans_in" fm t53 m53 c53,f54,fd "_law_is_a_plan" eo t54 m54 c54,f55,fd "_law_part_of" gr t55 m55 c55,f56,fd "_law_swapped" gh t56 m56 c56,f57,fd "_law_bent_plan" eG t57 m57 c57,f58,fd "_law_none_plan" eI t58 m58 c58,f59,fd "_law_few_figures" dG t59 m59 c59,f60,fd "_law_bad_spot" fk t60 m60 c60,f61,fd "_law_bad_odd" gk t61 m61 c61,f62,fd "_law_are_refused" dF t62 m62 c62,fa,fd "law" xT t63 m63 c63,q0,q1,q2,q3,q4,q5,g6,g7,cu,d6,aE,cT,dW,fE,aG,aK,aL,fM,dY,cR,d7,aH,dr,eQ⟩:=⟨F0,mg_of X G a0.1,a0.2.2.2,b0,F1,mg_of X G a1.1,a1.2.2.2,b1,F2,mg_of X G a2.1,a2.2.2.2,b2,F3,mg_of X G a3.1,a3.2.2.2,b3,F4,mg_of X G a4.1,a4.2.2.2,b4,F5,mg_of X G a5.1,a5.2.2.2,b5,F6,mg_of X G a6.1,a6.2.2.2,b6,F7,mg_of X G a7.1,a7.2.2.2,b7,F8,mg_of X G a8.1,a8.2.2.2,b8,F9,mg_of X G a9.1,a9.2.2.2,b9,F10,mg_of X G a10.1,a10.2.2.2,b10,F11,mg_of X G a11.1,a11.2.2.2,b11,F12,mg_of X G a12.1,a12.2.2.2,b12,F13,mg_of X G a13.1,a13.2.2.2,b13,F14,mg_of X G a14.1,a14.2.2.2,b14,F15,mg_of X G a15.1,a15.2.2.2,b15,F16,mg_of X G a16.1,a16.2.2.2,b16,F17,mg_of X G a17.1,a17.2.2.2,b17,F18,mg_of X G a18.1,a18.2.2.2,b18,F19,mg_of X G a19.1,a19.2.2.2,b19,F20,mg_of X G a20.1,a20.2.2.2,b20,F21,mg_of X G a21.1,a21.2.2.2,b21,F22,mg_of X G a22.1,a22.2.2.2,b22,F23,mg_of X G a23.1,a23.2.2.2,b23,F24,mg_of X G a24.1,a24.2.2.2,b24,F25,mg_of X G a25.1,a25.2.2.2,b25,F26,mg_of X G a26.1,a26.2.2.2,b26,F27,mg_of X G a27.1,a27.2.2.2,b27,F28,mg_of X G a28.1,a28.2.2.2,b28,F29,mg_of X G a29.1,a29.2.2.2,b29,F30,mg_of X G a30.1,a30.2.2.2,b30,F31,mg_of X G a31.1,a31.2.2.2,b31,F32,mg_of X G a32.1,a32.2.2.2,b32,F33,mg_of X G a33.1,a33.2.2.2,b33,F34,mg_of X G a34.1,a34.2.2.2,b34,F35,mg_of X G a35.1,a35.2.2.2,b35,F36,mg_of X G a36.1,a36.2.2.2,b36,F37,mg_of X G a37.1,a37.2.2.2,b37,F38,mg_of X G a38.1,a38.2.2.2,b38,F39,mg_of X G a39.1,a39.2.2.2,b39,F40,mg_of X G a40.1,a40.2.2.2,b40,F41,mg_of X G a41.1,a41.2.2.2,b41,F42,mg_of X G a42.1,a42.2.2.2,b42,F43,mg_of X G a43.1,a43.2.2.2,b43,F44,mg_of X G a44.1,a44.2.2.2,b44,F45,mg_of X G a45.1,a45.2.2.2,b45,F46,mg_of X G a46.1,a46.2.2.2,b46,F47,mg_of X G a47.1,a47.2.2.2,b47,F48,mg_of X G a48.1,a48.2.2.2,b48,F49,mg_of X G a49.1,a49.2.2.2,b49,F50,mg_of X G a50.1,a50.2.2.2,b50,F51,mg_of X G a51.1,a51.2.2.2,b51,F52,mg_of X G a52.1,a52.2.2.2,b52,F53,mg_of X G a53.1,a53.2.2.2,b53,F54,mg_of X G a54.1,a54.2.2.2,b54,F55,mg_of X G a55.1,a55.2.2.2,b55,F56,mg_of X G a56.1,a56.2.2.2,b56,F57,mg_of X G a57.1,a57.2.2.2,b57,F58,mg_of X G a58.1,a58.2.2.2,b58,F59,mg_of X G a59.1,a59.2.2.2,b59,F60,mg_of X G a60.1,a60.2.2.2,b60,F61,mg_of X G a61.1,a61.2.2.2,b61,F62,mg_of X G a62.1,a62.2.2.2,b62,F63,mg_of X G a63.1,a63.2.2.2,b63,mg_none_of X G z0,mg_none_of X G z1,mg_none_of X G z2,mg_none_of X G z3,mg_none_of X G z4,mg_none_of X G z5,mg_none_of X G z6,mg_none_of X G z7,mg_none_of X G z8,mg_none_of X G z9,mg_none_of X G z10,mg_none_of X G z11,mg_none_of X G z12,mg_of X G v0,mg_of X G v1,mg_of X G v2,mg_of X G v3,mg_of X G v4,mg_of X G v5,⟨mg_of X G v6,⟨_,_,_,_,_,_,w6⟩⟩,⟨mg_of X G v7,⟨_,_,_,_,_,_,w7⟩⟩,mg_of X G y0,mg_of X G y1,mg_of X G y2,mg_of X G y3,mg_of X G y4,mg_of X G y5,mg_of X G y6,mg_of X G y7,mg_of X G y8,mg_of X G y9,mg_of X G y10,mg_of X G y11,mg_of X G y12,mg_of X G y13,yq,zh,ly,i4,iZ,kT,nr,ju,kH,kI,mM,ky,iU,kU,jr,uO,Br,BH,lT,jC,jo,l5,oU,k9,mQ,lQ,oY,mT,jz,mV,ko,vX,Ef,Eu,o4,kJ,lE,pd,qc,mE,pb,oN,p7,oj,lq,o3,lV,yd,E8,D4,oK,kY,kC,oq,qG,ma,oB,oW,ql,oE,lC,ou,md,ym,BM,Bz,lW,jt,jA,mS,oI,ll,mv,lS,oP,mz,jv,mC,kd,vH,⟨z1_NoNumber,z2_NoNumber,z3_NoNumber,z4_NoNumber,z5_NoNumber,z6_NoNumber⟩,⟨z1_NoKinds,z2_NoKinds,z3_NoKinds,z4_NoKinds,z5_NoKinds,z6_NoKinds⟩,⟨z1_NoPlan,z2_NoPlan,z3_NoPlan,z4_NoPlan,z5_NoPlan,z6_NoPlan⟩,⟨z1_NoSpot,z2_NoSpot,z3_NoSpot,z4_NoSpot,z5_NoSpot,z6_NoSpot⟩,⟨z1_TooMany,z2_TooMany,z3_TooMany,z4_TooMany,z5_TooMany,z6_TooMany⟩,⟨Jc lo__law_are_refused,l1__law_are_refused,VX (mg_of X G bb1) bb2 bb3⟩,congrArg Value.ref lc__law_are_refused⟩
 exact⟨_,fun s v=>.of_eq rfl,fun base _ _=>Vt (e:=⟨l.prog,w,K,mg,base,_⟩) T⟩
theorem walk{l:PySem.W.OpenLaw}{q:Program}{loose:List Str}{XP:(Str->Option Value)->Heap->Prop}{YP:World->Heap->Prop}{d:DefRec}{K:Params->PySem.W.Frag}(tabs:List Addr)(hn:l.most=some 63)(hdf:d.params.defaults=[])
  (hY:∀(w:World) (h:Heap),YP w h->(K w.params).In h/\(∀p∈tabs,h.get? p=some (tabObj #[])/\(K w.params).lookup p=none)/\(∀p∈tabs,isCodeTable h p))
  (hA2:∀(w:World) c o p q,(K w.params).lookup c=some o->cX o=some (p,q)->p∈tabs)
  (F:∀(w:World) (mg:Str->Option Value) (fa:Addr) (h:Heap),(K w.params).In h->h.Ns mainGlobals mg->mg d.name=some (.ref fa) ->
   ∃fd:FuncData,(∀(s:Shared) (u:Value),BindsTo s fd ⟨[u],[]⟩ [("_law_script",u)])/\∀base:Heap,(K w.params).In base->base.Ns mainGlobals mg->bO l.prog w (K w.params) mg base CX0 37 fa fd ["_law_script"] (spD (K w.params) Fl)) :
  PySem.W.WalkO q loose XP YP l.row.toRowW d [] (fun f vs=>PySem.call f vs):=
 L2.Qf (n:=63) (k:=37) (x:="_law_script") (CX:=fun _=>CX0) (sp:=fun w=>spD (K w.params) Fl) tabs hn ⋯ hdf ⟨rfl,⋯,⋯⟩ hY hA2 F (fun w H a ns hl hT hS=>Pk hl hT hS) fun _ _ _ _ _ z=>z
end K28
open PySem PySem.W PyProof.Rows L2.DL in
set_option maxRecDepth 100000 in
set_option maxHeartbeats 0 in
theorem PySem.Challenge.cw_matefloors_k28_plans_refused_holds : PySem.Challenge.rw_matefloors_k28_plans_refused.Holds :=
 holds_law K28.H.ws fun said=>holds_open (XP:=XL K28.H.V []) (YP:=K28.H.HK.says) (d:=K28.H.D) (kwd:=[]) K28.H.left K28.H.HK.of K28.H.HK.keeps (fun s e=>xl_of s (Bool.and_eq_true_iff.mp e).1) XL.keeps ⟨⟩ ⟨⟩ ⟨⟩
  (fun s e=>recFacts_of (Bool.and_eq_true_iff.mp e).2) ⟨⟩ said ⟨⟩ ⟨⟨⟩,⟨⟩,⟨⟩,⟨⟩,⟨⟩,⟨⟩⟩ ⟨[.list []],⟨⟩,⟨⟩⟩
  (K28.walk (l:=PySem.Challenge.rw_matefloors_k28_plans_refused) (K:=K28.H.K) K28.H.tabs ⟨⟩ ⟨⟩ (fun w h ZZ=>by
   have ZZ:(K28.H.KF w.params).In h:=ZZ
   refine⟨Jr ZZ,fun p hp=>?_,fun p hp=>?_⟩
   ·rcases List.mem_cons.mp hp with rfl|hp
    ·exact⟨ZZ _ _ (K28.H.n9 w.params).1,(K28.H.n9 w.params).2⟩
    rcases List.mem_cons.mp hp with rfl|hp
    ·exact⟨ZZ _ _ (K28.H.Oj w.params).1,(K28.H.Oj w.params).2⟩
    exact nomatch hp
   ·rcases List.mem_cons.mp hp with rfl|hp
    ·obtain⟨o,e1,e2⟩:=Jc (K28.H.lI w.params);exact Hz (Jr ZZ) e1 e2
    rcases List.mem_cons.mp hp with rfl|hp
    ·obtain⟨o,e1,e2⟩:=Jc (K28.H.RP w.params);exact Hz (Jr ZZ) e1 e2
    exact nomatch hp) (fun w c o p q e e2=>by
   have h:=NU (K28.H.RE w.params) e e2
   have h2:=mem_map_of_mem (f:=fun x:Addr×Str=>x.1) h
   exact h2) fun w mg fa h KX G hmg=>by
   obtain⟨h0,h1,h2,h3,h4,h5,h6,h7,h8,h9,h10,h11,h12,h13⟩:=K28.H.UC w.params
   obtain⟨h14,h15,h16,h17,h18,h19,h20,h21,h22,h23,h24,h25,h26,h27⟩:=K28.H.VN w.params
   obtain⟨h28,h29,h30,h31,h32,h33,h34,h35,h36,h37,h38,h39,h40,h41⟩:=K28.H.Va w.params
   obtain⟨h42,h43,h44,h45,h46,h47,h48,h49,h50,h51,h52,h53,h54,h55⟩:=K28.H.UY w.params
   obtain⟨h56,h57,h58,h59,h60,h61,h62,h63,h64,h65,h66,h67,h68,h69⟩:=K28.H.Vr w.params
   obtain⟨h70,h71,h72,h73,h74,h75,h76,h77,h78,h79,h80,h81,h82,h83⟩:=K28.H.Wj w.params
   obtain⟨h84,h85,h86,h87,h88,h89,h90,h91,h92,h93,h94,h95,h96,h97⟩:=K28.H.U5 w.params
   obtain⟨h98,h99,h100,h101,h102,h103,h104,h105,h106,h107,h108,h109,h110,h111⟩:=K28.H.UD w.params
   obtain⟨h112,h113,h114,h115,h116,h117,h118,h119,h120,h121,h122,h123,h124,h125⟩:=K28.H.Vh w.params
   obtain⟨h126,h127,h128,h129,h130,h131,h132,h133,h134,h135,h136,h137,h138,h139⟩:=K28.H.V6 w.params
   obtain⟨h140,h141,h142,h143,h144,h145,h146,h147,h148,h149,h150,h151,h152,h153⟩:=K28.H.SK w.params
   obtain⟨h154,h155,h156,h157,h158,h159,h160,h161,h162,h163,h164,h165,h166,h167⟩:=K28.H.Sq w.params
   obtain⟨h168,h169,h170,h171,h172,h173,h174,h175,h176,h177,h178,h179,h180,h181⟩:=K28.H.Tj w.params
   obtain⟨h182,h183,h184,h185,h186,h187,h188,h189,h190,h191,h192,h193,h194,h195⟩:=K28.H.Tn w.params
   obtain⟨h196,h197,h198,h199,h200,h201,h202,h203,h204,h205,h206,h207,h208,h209⟩:=K28.H.TB w.params
   exact K28.all_mk KX G hmg h0 h1 h2 h3 h4 h5 h6 h7 h8 h9 h10 h11 h12 h13 h14 h15 h16 h17 h18 h19 h20 h21 h22 h23 h24 h25 h26 h27 h28 h29 h30 h31 h32 h33 h34 h35 h36 h37 h38 h39 h40 h41 h42 h43 h44 h45 h46 h47 h48 h49 h50 h51 h52 h53 h54 h55 h56 h57 h58 h59 h60 h61 h62 h63 h64 h65 h66 h67 h68 h69 h70 h71 h72 h73 h74 h75 h76 h77 h78 h79 h80 h81 h82 h83.1 h83.2 h84.1 h84.2 h85 h86 h87 h88 h89 h90 h91 h92 h93 h94 h95 h96 h97 h98 h99 h100 h101 h102 h103 h104 h105 h106 h107 h108 h109 h110 h111 h112 h113 h114 h115 h116 h117 h118 h119 h120 h121 h122 h123 h124 h125 h126 h127 h128 h129 h130 h131 h132 h133 h134 h135 h136 h137 h138 h139 h140 h141 h142 h143 h144 h145 h146 h147 h148 h149 h150 h151 h152 h153 h154 h155 h156 h157 h158 h159 h160 h161 h162 h163 h164 h165 h166 h167 h168 h169 h170 h171 h172 h173 h174 h175 h176 h177 h178 h179 h180 h181 h182 h183 h184 h185 h186 h187 h188 h189 h190 h191 h192 h193 h194 h195 h196 h197 h198 h199 h200 h201 h202 h203 h204 h205 h206 h207 h208 h209.1 h209.2.1 h209.2.2 (K28.H.lI w.params) (fun c2 o2 q2 e e2=>K28.H.vB (NU (K28.H.RE w.params) e e2)) rfl)
