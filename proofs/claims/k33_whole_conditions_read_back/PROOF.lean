import PyProof.Rows.All
import Wide.All
import OpenK.AllK
import Wide.FinOn
import Lean
import PyProof.EqAt
import PyProof.EqKinds
import PyProof.TupleCall
import PyProof.StationsW
import KE.IntBitsLaws
import PyProof.ExcClass2
import PyProof.ExcInit
import PyProof.InstStoreFacts
import PyProof.ExcArgsOwn
import PyProof.ExcAttrAll.ValueError
import KE.KNestM
import KE.IntTextLaws
import KE.KIsAll
import PyProof.Rows.EqDataRows
import PyProof.StrCalls2
import PyProof.Rows.StrSplitJoin
import KE.KIntText
import PyProof.StrBlockI
import PyProof.StrLawsIn
import PyProof.StrLawsIdx
import KE.KRevIter
import KE.KLam
import KE.KSortTup
import PyProof.Rows.SortWalk
import PyProof.Conv_int_bool
import PyProof.Logic
import PyProof.StrLawsChain
import PyProof.StrLawsTight
import PySem.Challenge.RW_weather_k33_whole_conditions_read_back
open Lean in
macro "tw!" xs:ident+ : command => do
  let cs ← xs.mapM fun x => `(def $x:ident : Nat := 0)
  return ⟨mkNullNode cs⟩
open Lean Parser Command in
macro "T!" d:declId s:declSig v:declVal : command => `(theorem $d:declId $s:declSig $v:declVal)
open Lean Parser Command in
macro "D!" d:declId s:optDeclSig v:declVal : command => `(noncomputable def $d:declId $s:optDeclSig $v:declVal)
open Lean Parser Command in
macro "A!" d:declId s:optDeclSig v:declVal : command => `(noncomputable abbrev $d:declId $s:optDeclSig $v:declVal)
macro "~" t:term : tactic => `(tactic| exact $t)
macro "r!" t:term : tactic => `(tactic| refine $t)
open Lean.Parser.Tactic in
macro "o!" p:rcasesPatMed ":=" t:term : tactic => `(tactic| obtain $p:rcasesPatMed := $t)
macro "om" : tactic => `(tactic| omega)
macro "o?" : term => `(by omega)
macro "d?" : term => `(by decide)
open Lean.Parser.Tactic in
macro "S!" "[" s:simpLemma,* "]" l:(location)? : tactic => do
  let s : Lean.Syntax.TSepArray [`Lean.Parser.Tactic.simpStar, `Lean.Parser.Tactic.simpErase, `Lean.Parser.Tactic.simpLemma] "," := ⟨s.elemsAndSeps⟩
  `(tactic| simp only [$s,*] $[$l]?)
open Lean Parser Term in
macro "h!" d:letDecl : tactic => `(tactic| have $d:letDecl)
open Lean.Parser.Tactic in
macro "u!" xs:(ppSpace colGt ident)+ l:(location)? : tactic => `(tactic| unfold $xs* $[$l]?)
macro "c!" t:term : tactic => `(tactic| cases $t:term)
macro:max "\\(" xs:term,* ")" : term => `(⟨$xs,*⟩)
set_option hygiene false
macro "M!" : term => `(model X.prog X.w)
macro "N!" : term => `(model prog w)
macro "l!" : term => `(Or.inl rfl)
macro "k?" : term => `(by decide +kernel)
macro "n!" : term => `(Nat.le_refl _)
macro "Y!" : term => `(jK (eE P w) P w K mg base N qual scope f cd A outer s H E)
macro "F!" : term => `(fM P w K mg base (eE P w))
macro "H!" : term => `(jG P w K mg base (eE P w))
macro "J!" : term => `(xu P w K mg base)
macro "I!" : term => `(Inv X pins σ H s)
macro "E!" : term => `((x == ("__debug__" : Str)) = false)
macro "W!" : term => `(starEach (e :: es) X.env = (false, eval e X.env) :: starEach es X.env)
macro "Q!" : term => `((backTo pos (starEach es X.env)).any (·.1) = false)
macro "V!" : term => `(X.fn x = true \/ X.env.scope.names.lookup x = some .local)
macro "U!" : term => `(fun ρ => toS ((ak (dC (.int 1)) aB) ρ) fun ds => .ex a.NoText ["row"] ds)
macro "Z!" : term => `(List Z -> aC -> RX Z)
macro "K!" : term => `(aJ -> aC -> RX Z)
macro "R!" : term => `(List D -> R D)
macro "B!" : term => `(Value -> Shared -> Prop)
macro "G!" : term => `(Str -> Option Value)
macro "X!" : term => `(fM X.prog X.w X.K X.mg X.base CX k f fd ps sp)
macro "g!" : term => `(by simp; omega)
macro "i!" : term => `(∀ x, foldedSetIterable iter X.env x = pure x)
macro "L!" : term => `(List (Addr × Obj))
macro "O!" : tactic => `(tactic| first | exact .inl rfl | exact .inr rfl | assumption)
macro:max "#" n:num : term => `(dC (.int $n))
macro:max "#" n:str : term => `(dC (.str $n))
macro:max "&" n:num : term => `(dV $n)
set_option hygiene true
set_option Elab.async false
set_option linter.all false
set_option maxRecDepth 100000
namespace L2
open PySem PySem.Spec PyProof.Rows
A! Key:=Sum Int Str
D! Bc:Key->Value->Bool
 |.inl k,v=>Value.isInt k v
 |.inr x,v=>Value.isStrOf x v
D! aky(w:World):Key->Int
 |.inl k=>hashInt k
 |.inr x=>hashStr w x
T! uA:∀{k:Key} {v:Value},Bc k v=true->(∃i t,k=Sum.inl i/\v=Value.int i t)\/(∃x t,k=Sum.inr x/\v=Value.str x t)
 |.inl i,v,h=>by
  o!⟨t,e⟩:=Value.isInt_shape (k:=i) (v:=v) h;~.inl \(i,t,rfl,e)
 |.inr x,v,h=>by
  o!⟨t,e⟩:=Value.isStrOf_shape (x:=x) (v:=v) h;~.inr \(x,t,rfl,e)
T! akz(i:Int)(t:Tok):Bc (.inl i) (.int i t)=true:=by simp[Bc,Value.isInt]
T! akA(x:Str)(t:Tok):Bc (.inr x) (.str x t)=true:=by simp[Bc,Value.isStrOf]
T! akC(a b:Int):decide ((Sum.inl a:Key)=Sum.inl b)=(a==b):=by
 by_cases e:a=b;·subst e;simp
 ·h! h:¬(Sum.inl a:Key)=Sum.inl b:=λq=>e (Sum.inl.inj q)
  rw[decide_eq_false h];~(beq_eq_false_iff_ne.mpr e).symm
T! akF(a b:Str):decide ((Sum.inr a:Key)=Sum.inr b)=decide (a=b):=by
 by_cases e:a=b;·subst e;simp
 ·h! h:¬(Sum.inr a:Key)=Sum.inr b:=λq=>e (Sum.inr.inj q)
  rw[decide_eq_false h,decide_eq_false e]
T! akD(a:Int)(b:Str):decide ((Sum.inl a:Key)=Sum.inr b)=false:=decide_eq_false (λq=>nomatch q)
T! akE(a:Str)(b:Int):decide ((Sum.inr a:Key)=Sum.inl b)=false:=decide_eq_false (λq=>nomatch q)
D! my(prog:Program)(w:World):PySem.KeyKind prog w Key where
 is:=Bc
 hash:=aky w
 inj:=λv a b ha hb=>by
  rcases uA ha with⟨i,t,rfl,rfl⟩|⟨x,t,rfl,rfl⟩
  ·rcases uA hb with⟨j,u,rfl,e⟩|⟨y,u,rfl,e⟩
   ·injection e with e1 _;rw[e1]
   ·~nomatch e
  ·rcases uA hb with⟨j,u,rfl,e⟩|⟨y,u,rfl,e⟩
   ·~nomatch e
   ·injection e with e1 _;rw[e1]
 byValue:=λk v h=>by
  rcases uA h with⟨i,t,rfl,rfl⟩|⟨x,t,rfl,rfl⟩<;>rfl
 pyHash:=λhv h=>by
  rcases uA hv with⟨i,t,rfl,rfl⟩|⟨x,t,rfl,rfl⟩;·~wpAny_pyHash_int h
  ·~wpAny_pyHash_str h
 eqBool:=λhu hv h=>by
  rcases uA hu with⟨i,t,rfl,rfl⟩|⟨x,t,rfl,rfl⟩
  ·rcases uA hv with⟨j,u,rfl,rfl⟩|⟨y,u,rfl,rfl⟩
   ·rw[akC]at h;~wpAny_eqBool_int h
   ·rw[akD]at h;~SeqAt.EqAt.int_str i t y u _ _ _ _ h
  ·rcases uA hv with⟨j,u,rfl,rfl⟩|⟨y,u,rfl,rfl⟩
   ·rw[akE]at h;~SeqAt.EqAt.str_int x t j u _ _ _ _ h
   ·rw[akF]at h;~wpAny_eqBool_str h
 «strs»:=λk x t v h=>by
  rcases uA h with⟨i,u,rfl,e⟩|⟨y,u,rfl,e⟩;·~nomatch e
  ·injection e with e1 _
   subst e1;c! v<;>rfl
T! alC(prog:Program)(w:World)(i:Int)(t:Tok):(my prog w).is (.inl i) (.int i t)=true:=akz i t
T! alD(prog:Program)(w:World)(x:Str)(t:Tok):(my prog w).is (.inr x) (.str x t)=true:=akA x t
end L2
namespace L2
open PySem PySem.Spec PyProof.Rows
inductive V where
 |non|bl(b:Bool)|int(i:Int)|str(x:Str)|nG(b:Array UInt8)|flt(b:UInt64)|ref(a:Addr)|ty(n:String)
 deriving DecidableEq
D! RelV:V->Value->Prop
 |.non,u=>u=Value.none
 |.bl b,u=>u=Value.bool b
 |.int i,u=>∃t,u=Value.int i t
 |.str x,u=>∃t,u=Value.str x t
 |.nG b,u=>∃t,u=Value.bytes b t
 |.flt b,u=>∃t,u=Value.float b t
 |.ref a,u=>u=Value.ref a
 |.ty n,u=>u=Value.type n
A! Vals:List V->List Value->Prop:=Paired RelV
T! Vals.length{xs:List V}{us:List Value}(r:Vals xs us):xs.length=us.length:=Paired.length r
T! Vals.get:∀{xs:List V} {us:List Value} {i:Nat} {x:V},Vals xs us->xs[i]?=some x->∃u,us[i]?=some u/\RelV x u
 |_,_,_,_,.nil,e=>by simp at e
 |_,_,0,_,.cons r _,e=>by simp at e;subst e;~\(_,rfl,r)
 |_,_,i+1,x,.cons _ t,e=>by
  o!⟨u,h1,h2⟩:=Vals.get (i:=i) (x:=x) t (by simpa using e);~\(u,by simpa using h1,h2)
T! Vals.append:∀{xs ys:List V} {us ws:List Value},Vals xs us->Vals ys ws->Vals (xs++ys) (us++ws)
 |_,_,_,_,.nil,s=>s
 |_,_,_,_,.cons r t,s=>.cons r (Vals.append t s)
T! Vals.take:∀{xs:List V} {us:List Value} (n:Nat),Vals xs us->Vals (xs.take n) (us.take n)
 |_,_,0,_=>.nil
 |_,_,_+1,.nil=>.nil
 |_,_,n+1,.cons r t=>.cons r (Vals.take n t)
T! Vals.drop:∀{xs:List V} {us:List Value} (n:Nat),Vals xs us->Vals (xs.drop n) (us.drop n)
 |_,_,0,r=>r
 |_,_,_+1,.nil=>.nil
 |_,_,n+1,.cons _ t=>Vals.drop n t
D! jY:Option V->Option Value->Prop
 |some v,some u=>RelV v u
 |none,none=>True
 |_,_=>False
D! KV{κ:Type}:List (κ×V)->List (κ×Value)->Prop:=Paired λ(p:κ×V) (q:κ×Value)=>p.1=q.1/\RelV p.2 q.2
D! kV:Key->V
 |.inl i=>.int i
 |.inr x=>.str x
inductive HO where
  /-- a list -/
 |lst(xs:List V)
  /-- a tuple (never changes) -/
 |tup(xs:List V)
  /-- a dict whose keys are ints and texts; one whose keys are tuples of ints and texts (the empty one is both) -/
 |dK(kvs:List (Key×V))|dT(kvs:List (List Key×V))
  /-- a set of ints: its members, its size -/
 |set(S:Int->Bool)(n:Nat)
  /-- an instance of the class at C, its dict at dx, its attributes -/
 |ins(C dx:Addr)(fs:List (Str×V))
  /-- the dict of the instance at x -/
 |own(x:Addr)
  /-- the dict of an exception -/
 |xd(fs:List (Str×V))
  /-- a bound method, f of x -/
 |met(f x:Addr)
  /-- a range object lo, lo + 1, .. below hi -/
 |Nk(lo hi:Int)
  /-- a thing that is known to the object (the script; a dict while a loop walks it): read, never written while it is so -/
 |nP(o:Obj)(u:HO)
  /-- a code object's table -/
 |iZ(ps:Array Value)
  /-- any other thing, by what is true of its one object (a def of one's own: SetO a S n := HO.ext λh => ..) -/
 |ext(φ:Heap->Prop)
A! Hp:=Addr->Option HO
D! upd(H:Hp)(a:Addr)(o:HO):Hp:=λb=>if b=a then some o else H b
T! gG{H:Hp}{a:Addr}{o:HO}:upd H a o a=some o:=by u! upd;rw[if_pos rfl]
T! cD{H:Hp}{a b:Addr}{o:HO}(h:b≠a):upd H a o b=H b:=by u! upd;rw[if_neg h]
T! alQ{H:Hp}{a b:Addr}{o u:HO}(h:H a=some o)(h':H b=some u)(d:o≠u):a≠b:=by
 intro e;subst e;rw[h]at h';~d (Option.some.inj h')
T! qL{H:Hp}{a b:Addr}{o:HO}(h:H a=some o)(h':H b=none):a≠b:=by
 intro e;subst e;rw[h]at h';c! h'
section
variable(P:Program)(w:World)
D! ir(H:Hp)(h:Heap)(a:Addr):HO->Prop
 |.lst xs=>xs.length<=sizeLine/\∃(its:List Value) (n:Nat),Vals xs its/\h.get? a=some {cls:=.type "list",data:=.seq its.toArray n}
 |.tup xs=>xs.length<=sizeLine/\∃its:List Value,Vals xs its/\IsTup h a its.toArray
 |.dK kvs=>kvs.length<=sizeLine/\(a==sysModules)=false/\∃vs,KV kvs vs/\h.DictOf (my P w) a vs
 |.dT kvs=>kvs.length<=sizeLine/\(a==sysModules)=false/\∃xs:List (List Key×Addr×Value),
   Paired (λ(p:List Key×V) (q:List Key×Addr×Value)=>p.1=q.1/\H q.2.1=some (.tup (p.1.map kV))/\RelV p.2 q.2.2) kvs xs/\
   ∃o es ep,h.get? a=some o/\o.ExactDict/\o.data=.dict es ep/\es.toList=xs.map (entryOfKey (tupleKind (my P w)))/\(xs.map (·.1)).Nodup
 |.set S n=>h.SetOf (intKind P w) a S n
 |.ins C dx fs=>H dx=some (.own a)/\fs.length<=1000/\dx≠a/\h.get? a=some (PySem.W.instObj C dx)/\
   ∃mA,h.Ns1 dx mA/\(∀f,jY (fs.lookup f) (mA f))/\PySem.Within mA (fs.map (·.1))
 |.own _=>∃o,h.get? a=some o
 |.xd fs=>∃mA,h.Ns1 a mA/\∀f,jY (fs.lookup f) (mA f)
 |.Nk lo hi=>∃t u v,h.get? a=some {cls:=.type "range",data:=.fields #[.int lo t,.int hi u,.int 1 v]}
 |.nP o u=>h.get? a=some o/\ir H h a u
 |.iZ ps=>h.get? a=some {cls:=.none,data:=.fields ps}
 |.met f x=>h.get? a=some (PySem.W.methodObj (.ref f) (.ref x))
 |.ext φ=>φ h/\(∃o,h.get? a=some o)/\∀h1 h2:Heap,φ h1->(∀o,h1.get? a=some o->h2.get? a=some o)->φ h2
D! fG(H:Hp)(h:Heap):Prop:=∀a o,H a=some o->ir P w H h a o
end
section
variable{P:Program}{w:World}{H H':Hp}{h h':Heap}{a:Addr}{o:HO}
T! ir.lt(x:ir P w H h a o):a<h.objs.size:=by
 cases o with
 |lst xs=>o!⟨_,_,_,_,e⟩:=x;~Heap.lt_size e
 |tup xs=>o!⟨_,_,_,p⟩:=x;~p.lt
 |dK kvs=>o!⟨_,_,_,_,o,_,_,e,_⟩:=x;~Heap.lt_size e
 |dT kvs=>o!⟨_,_,_,_,o,_,_,e,_⟩:=x;~Heap.lt_size e
 |set S n=>o!⟨o,_,_,_,e,_⟩:=x;~Heap.lt_size e
 |ins C dx fs=>o!⟨_,_,_,e,_⟩:=x;~Heap.lt_size e
 |own y=>o!⟨_,e⟩:=x;~Heap.lt_size e
 |xd fs=>o!⟨_,⟨_,_,_,e,_⟩,_⟩:=x;~Heap.lt_size e
 |Nk lo hi=>o!⟨_,_,_,e⟩:=x;~Heap.lt_size e
 |nP ob u=>o!⟨e,_⟩:=x;~Heap.lt_size e
 |iZ ps=>~Heap.lt_size (show h.get? a=some _ from x)
 |met f y=>~Heap.lt_size (show h.get? a=some _ from x)
 |ext φ=>o!⟨_,⟨_,e⟩,_⟩:=x;~Heap.lt_size e
T! Paired.jR{α β:Type}{F G:α->β->Prop}:∀{acw:List α} {acx:List β},Paired F acw acx->(∀a b,F a b->G a b)->Paired G acw acx
 |_,_,.nil,_=>.nil
 |_,_,.cons r t,f=>.cons (f _ _ r) (Paired.jR t f)
T! ir.uQ(x:ir P w H h a o)(k:∀b u,(b=a\/H b=some (.own a))->h.get? b=some u->h'.get? b=some u)
    (ho:∀b,H b=some (.own a)->H' b=some (.own a))(ht:∀b xs,H b=some (.tup xs)->H' b=some (.tup xs)):ir P w H' h' a o:=by
 induction o with
 |lst xs=>o!⟨z,its,n,r,e⟩:=x;~\(z,its,n,r,k _ _ (.inl rfl) e)
 |tup xs=>o!⟨z,its,r,ob,e,c⟩:=x;~\(z,its,r,ob,k _ _ (.inl rfl) e,c)
 |dK kvs=>o!⟨z,y,vs,r,ob,es,ep,e,c⟩:=x;~\(z,y,vs,r,ob,es,ep,k _ _ (.inl rfl) e,c)
 |dT kvs=>
  o!⟨z,y,xs,r,ob,es,ep,e,c⟩:=x;~\(z,y,xs,Paired.jR r λp q z=>\(z.1,ht _ _ z.2.1,z.2.2),ob,es,ep,k _ _ (.inl rfl) e,c)
 |set S n=>o!⟨ob,es,ep,t,e,c⟩:=x;~\(ob,es,ep,t,k _ _ (.inl rfl) e,c)
 |ins C dx fs=>
  o!⟨d,z,ne,e,mA,⟨od,es,ep,e2,c⟩,r⟩:=x;~\(ho _ d,z,ne,k _ _ (.inl rfl) e,mA,\(od,es,ep,k _ _ (.inr d) e2,c),r)
 |own y=>o!⟨ob,e⟩:=x;~\(ob,k _ _ (.inl rfl) e)
 |xd fs=>o!⟨mA,⟨od,es,ep,e,c⟩,r⟩:=x;~\(mA,\(od,es,ep,k _ _ (.inl rfl) e,c),r)
 |Nk lo hi=>o!⟨t,u,v,e⟩:=x;~\(t,u,v,k _ _ (.inl rfl) e)
 |nP ob u ih=>o!⟨e,q⟩:=x;~\(k _ _ (.inl rfl) e,ih q)
 |iZ ps=>
  h! e:h.get? a=some {cls:=.none,data:=.fields ps}:=x;show h'.get? a=some {cls:=.none,data:=.fields ps};~k a _ (.inl rfl) e
 |met f y=>
  h! e:h.get? a=some (PySem.W.methodObj (.ref f) (.ref y)):=x;show h'.get? a=some (PySem.W.methodObj (.ref f) (.ref y));~k a _ (.inl rfl) e
 |ext φ=>o!⟨p,⟨o,e⟩,st⟩:=x;~\(st _ _ p λo q=>k _ _ (.inl rfl) q,\(o,k _ _ (.inl rfl) e),st)
T! fG.lt(x:fG P w H h)(e:H a=some o):a<h.objs.size:=(x a o e).lt
T! fG.fresh(x:fG P w H h)(e:h.objs.size<=a):H a=none:=by
 cases q:H a with
 |none=>rfl
 |some u=>~absurd (Nat.lt_of_lt_of_le (x.lt q) e) (Nat.lt_irrefl _)
T! fG.kept(x:fG P w H h)(k:∀b u,h.get? b=some u->h'.get? b=some u):fG P w H h':=λa o e=>
 (x a o e).uQ (λb u _ q=>k b u q) (λ_ q=>q) λ_ _ q=>q
T! fG.laid(x:fG P w H h)(k:∀b u,h.get? b=some u->h'.get? b=some u)(hp:h.objs.size<=a)(new:ir P w (upd H a o) h' a o):fG P w (upd H a o) h':=λb u e=>by
 h! hn:=x.fresh hp;by_cases hb:b=a;·subst hb;rw[gG]at e;c! e;~new
 ·rw[cD hb]at e
  ~(x b u e).uQ (λc v _ q=>k c v q) (λc q=>by rw[cD (qL q hn)];~q) λc xs q=>by rw[cD (qL q hn)];~q
end
D! Rd(H:Hp)(a:Addr)(u:HO):Prop:=H a=some u\/∃o,H a=some (.nP o u)
T! Rd.ok{P:Program}{w:World}{H:Hp}{h:Heap}{a:Addr}{u:HO}(r:Rd H a u)(x:fG P w H h):ir P w H h a u:=by
 rcases r with r|⟨o,r⟩;·~x a u r
 ·o!⟨_,q⟩:=x a _ r
  ~q
D! Dr:Option HO->Prop
 |some (.lst _)=>True
 |some (.dK _)=>True
 |some (.dT _)=>True
 |some (.set _ _)=>True
 |some (.ins _ _ _)=>True
 |some (.ext _)=>True
 |_=>False
section
variable{P:Program}{w:World}{H:Hp}{h h':Heap}{x e:Addr}{o':HO}
T! fG.write(ok:fG P w H h)(mu:Dr (H x))(he:e=x\/H e=some (.own x))(k:∀b u,b≠e->h.get? b=some u->h'.get? b=some u)(heo:∃u,h'.get? e=some u)
    (new:ir P w (upd H x o') h' x o'):fG P w (upd H x o') h':=λb u q=>by
 h! acL:∀c y,H c=some (.own y)->c≠x:=λc y r z=>by subst z;rw[r]at mu;~mu
 h! al5:∀c xs,H c=some (.tup xs)->c≠x:=λc xs r z=>by subst z;rw[r]at mu;~mu
 by_cases hb:b=x;·subst hb;rw[gG]at q;c! q;~new
 ·rw[cD hb]at q
  by_cases hbe:b=e
  ·h! q':H b=some (.own x):=by
    rcases he with z|z;·~absurd (hbe.trans z) hb
    ·rw[hbe];~z
   rw[q]at q';c! q';o!⟨v,hv⟩:=heo;~\(v,by rw[hbe];~hv)
  ·r!(ok b u q).uQ (λc v hc r=>k c v ?_ r) (λc r=>by rw[cD (acL c b r)];~r) λc xs r=>by rw[cD (al5 c xs r)];~r
   rcases hc with rfl|hc;·~hbe
   ·rintro rfl
    rcases he with z|z;·~acL c b hc z
    ·rw[hc]at z;c! z;~hb rfl
end
structure Un(fs ex:List Addr)(H H':Hp)(h h':Heap):Prop where
 keep:∀b o,h.get? b=some o->H b=none->b∉fs->b∉ex->h'.get? b=some o
 slot:∀b o,h.get? b=some o->H b=none->b∈fs->b∉ex->∃sl,h'.get? b=some {o with slots:=sl}
 free:∀b o,h.get? b=some o->H b=none->b∉ex->H' b=none
 there:∀b o,h.get? b=some o->b∉ex->∃o',h'.get? b=some o'
 tups:∀b xs,H b=some (.tup xs)->H' b=some (.tup xs)
 oX:∀b o u,H b=some (.nP o u)->H' b=some (.nP o u)
 o7:∀b ps,H b=some (.iZ ps)->∃more,H' b=some (.iZ (ps++more))
section
variable{fs z9 ex ex':List Addr}{H H1 H2:Hp}{h h1 h2 h':Heap}{a x e:Addr}{o:HO}
T! Un.any(u:Un fs ex H H1 h h1){b:Addr}{ob:Obj}(q:h.get? b=some ob)(n:H b=none)(hx:b∉ex):∃sl,h1.get? b=some {ob with slots:=sl}:=by
 by_cases hb:b∈fs;·~u.slot b ob q n hb hx
 ·~\(ob.slots,u.keep b ob q n hb hx)
T! Un.kept(k:∀b u,h.get? b=some u->h'.get? b=some u):Un fs ex H H h h':=
 \(λb ob q _ _ _=>k b ob q,λb ob q _ _ _=>\(ob.slots,k b ob q),λ_ _ _ n _=>n,λb ob q _=>\(ob,k b ob q),λ_ _ q=>q,λ_ _ _ q=>q,λ_ ps q=>\(#[],by rw[q];simp))
T! Un.refl:Un fs ex H H h h:=Un.kept λ_ _ q=>q
T! Un.laid(k:∀b u,h.get? b=some u->h'.get? b=some u)(hp:h.objs.size<=a)(hn:H a=none):Un fs ex H (upd H a o) h h' where
 keep:=λb u q _ _ _=>k b u q
 slot:=λb u q _ _ _=>\(u.slots,k b u q)
 free:=λb u q n _=>by rw[cD (Nat.ne_of_lt (Nat.lt_of_lt_of_le (Heap.lt_size q) hp))];~n
 there:=λb u q _=>\(u,k b u q)
 tups:=λb xs q=>by rw[cD (qL q hn)];~q
 oX:=λb u xs q=>by rw[cD (qL q hn)];~q
 o7:=λb ps q=>\(#[],by rw[cD (qL q hn),q];simp)
T! Un.write(mu:Dr (H x))(he:e=x\/H e=some (.own x))(k:∀b u,b≠e->h.get? b=some u->h'.get? b=some u)(heo:∃u,h'.get? e=some u):Un fs ex H (upd H x o) h h':=by
 h! hx:∀b,H b=none->b≠x:=λb n z=>by subst z;rw[n]at mu;~mu
 h! hb:∀b,H b=none->b≠e:=λb n z=>by
  subst z;rcases he with r|r;·~hx b n r
  ·rw[n]at r;c! r
 h! hm:∀b u,H b=some u->¬Dr (some u)->b≠x:=λb u q nm z=>by subst z;rw[q]at mu;~nm mu
 r!\(λb u q n _ _=>k b u (hb b n) q,λb u q n _ _=>\(u.slots,k b u (hb b n) q),λb u q n _=>by rw[cD (hx b n)];~n,λb u q _=>?_,
  λb xs q=>by rw[cD (hm b _ q λz=>z)];~q,λb u xs q=>by rw[cD (hm b _ q λz=>z)];~q,λb ps q=>\(#[],by rw[cD (hm b _ q λz=>z),q];simp))
 by_cases hbe:b=e;·subst hbe;~heo
 ·~\(u,k b u hbe q)
end
D! N8(h:Heap)(H:Hp):List Addr:=(List.range h.objs.size).filter λa=>(H a).isSome
D! sI(h:Heap)(H:Hp):Heap:=PySem.W.hideAll h (N8 h H)
T! ajM(h:Heap)(H:Hp):(sI h H).objs.size=h.objs.size:=PySem.W.hideAll_size _ _
T! ajL{h:Heap}{H:Hp}{b:Addr}{o:Obj}(e:h.get? b=some o)(n:H b=none):(sI h H).get? b=some o:=
 PySem.W.hideAll_get _ e λhm=>by
  h! q:(H b).isSome=true:=(List.mem_filter.mp hm).2;rw[n]at q;simp at q
T! amd{h:Heap}{H:Hp}{b:Addr}{o:Obj}(e:(sI h H).get? b=some o):h.get? b=some o/\H b=none:=by
 h! e':h.get? b=some o:=PySem.W.of_hideAll (N8 h H) e;r!\(e',?_);cases q:H b with
 |none=>rfl
 |some x=>
  h! hm:b∈N8 h H:=List.mem_filter.mpr \(List.mem_range.mpr (Heap.lt_size e'),by simp[q]);h! z:(sI h H).get? b=none:=PySem.W.hideAll_none (N8 h H) hm;rw[z]at e;c! e
D! ahE(g h:Heap)(L:Addr):L!:=(List.range h.objs.size).filterMap λa=>if a=L\/(g.get? a).isSome=true then none else(h.get? a).map λo=>(a,o)
D! rest(g h:Heap)(L d:Addr):L!:=(ahE g h L).filter λp=>decide (p.1≠d)
end L2
namespace L2
open PySem PySem.Spec PyProof.Rows
structure Mod(K:PySem.W.Frag)(mg:G!)(base:Heap):Prop where
 uB:K.In base
 glob:base.Ns mainGlobals mg
 blt:∃mb,base.Ns builtinsNs mb/\∀x:Str,x≠"__name__"->mb x=bootBuiltins x
 nolimit:base.NoLimit
structure Cx where
 prog:Program
 w:World
 K:PySem.W.Frag
 mg:G!
 base:Heap
 A:Around
 N:List Str
 s₀:Shared
 H₀:Hp
 env:Env
 outer:List Env
 stack:List Env
 ex:List Addr
 fn:Str->Bool
 calm:Bool
 pn:L!
 xe:B!
D! frs(l:List Env):List Addr:=l.filterMap (·.frame)
A! Cx.fs(X:Cx):List Addr:=frs X.outer
D! zm(sc:Scope)(x:Str):Prop:=sc.names.lookup x=some .local\/sc.names.lookup x=some .cell\/sc.names.lookup x=some .free
D! Loc(sc:Scope)(x:Str):Prop:=sc.names.lookup x=some .local\/sc.names.lookup x=some .cell
D! Look(env:Env)(h:Heap)(m:G!)(x:Str)(u:Value):Prop:=
 (env.kindOf x=some .local/\m x=some u)\/((env.kindOf x=some .cell\/env.kindOf x=some .free)/\∃c,env.cells.lookup x=some c/\h.IsCell c (some u))
structure Cx.Ok(X:Cx):Prop where
 mod:Mod X.K X.mg X.base
 kind:X.env.scope.kind=.function
 glob:X.env.globals=mainGlobals
 blt:X.env.builtins=builtinsNs
 above:X.s₀.heap.objs.size<=X.env.locals
 inj:∀x y c,X.env.cells.lookup x=some c->X.env.cells.lookup y=some c->x=y
 has:∀x,(X.env.kindOf x=some .cell\/X.env.kindOf x=some .free)->∃c,X.env.cells.lookup x=some c
 cab:∀x c,X.fn x=true->X.env.cells.lookup x=some c->X.s₀.heap.objs.size<=c
 hd:X.calm=true->X.A.handled=none
 frames:X.A.frames=some X.stack
 Nx:X.stack=X.outer\/(X.stack=X.env::X.outer/\X.env.frame=some X.env.locals)
 Q6:∀b∈X.ex,b≠X.env.locals/\∀x c,X.env.cells.lookup x=some c->c≠b
 bs:∀b o,X.base.get? b=some o->X.s₀.heap.get? b=some o/\X.H₀ b=none
 uc:X.base.objs.size<=X.s₀.heap.objs.size
 GQ:∀b o,X.base.get? b=some o->b∉X.ex
 Em:∀b∈X.ex,b∉X.fs
 nQ:X.s₀.heap.FunFrames X.base X.outer
 xP:∀b∈X.fs,X.H₀ b=none
structure Inv(X:Cx)(pins:L!)(σ:List (Option V))(H:Hp)(s:Shared):Prop where
 ok:X.Ok
 os:s.os=X.s₀.os
 bare:AllBare s.gens
 base:Un X.fs X.ex X.H₀ H X.s₀.heap s.heap
 loc:∃m,s.heap.Ns X.env.locals m/\∀(i:Nat) (x:Str) (v:V),X.N[i]?=some x->σ[i]?=some (some v)->zm X.env.scope x->∃u,RelV v u/\Look X.env s.heap m x u
 cell:∀x c,X.env.cells.lookup x=some c->∃v,s.heap.IsCell c v
 free:H X.env.locals=none
 pJ:∀x c,X.env.cells.lookup x=some c->H c=none
 pin:∀p∈X.pn++pins,s.heap.get? p.1=some p.2/\H p.1=none/\p.1≠X.env.locals/\p.1∉X.fs/\∀v,p.2.data≠.cell v
 hok:fG X.prog X.w H s.heap
 len:σ.length=X.N.length
section
variable{X:Cx}{pins:L!}{σ:List (Option V)}{H H':Hp}{s:Shared}{h':Heap}
T! Cx.Ok.alS(ok:X.Ok){b:Addr}{o:Obj}(e:X.base.get? b=some o):b∉X.fs:=λhb=>by
 h!:=(ok.nQ.mem hb).1;rw[e]at this;c! this
T! Inv.bs(I:I!):∀b o,X.base.get? b=some o->s.heap.get? b=some o/\H b=none:=λb o e=>
 \(I.base.keep b o (I.ok.bs b o e).1 (I.ok.bs b o e).2 (I.ok.alS e) (I.ok.GQ b o e),I.base.free b o (I.ok.bs b o e).1 (I.ok.bs b o e).2 (I.ok.GQ b o e))
T! Inv.bk(I:I!):∀b o,X.base.get? b=some o->s.heap.get? b=some o:=λb o e=>(I.bs b o e).1
T! Inv.mod(I:I!):Mod X.K X.mg X.base:=I.ok.mod
T! Inv.eY(I:I!):X.K.In s.heap:=I.ok.mod.uB.keeps I.bk
T! Inv.lt(I:I!):X.env.locals<s.heap.objs.size:=let\(_,hn,_):=I.loc;hn.lt
T! Inv.sz(I:I!):X.s₀.heap.objs.size<=s.heap.objs.size:=Nat.le_trans I.ok.above (Nat.le_of_lt I.lt)
T! Inv.alU(I:I!){a:Addr}(h:s.heap.objs.size<=a):a∉X.fs:=λhb=>by
 o!⟨_,o,ho,_⟩:=I.ok.nQ.mem hb;~absurd (Nat.lt_of_lt_of_le (Heap.lt_size ho) (Nat.le_trans I.sz h)) (Nat.lt_irrefl _)
T! Inv.qt(I:I!):∀x c,X.env.cells.lookup x=some c->c≠X.env.locals:=λx c e z=>by
 o!⟨v,o,ho,hd⟩:=I.cell x c e;o!⟨m,⟨o',es,ep,ye,Gg,_⟩,_⟩:=I.loc;rw[z,ye]at ho;c! ho;rw[Gg]at hd;c! hd
T! Inv.nQ(I:I!):s.heap.FunFrames X.base X.outer:=by
 h! all:∀(l:List Env),(∀b∈frs l,b∈X.fs)->X.s₀.heap.FunFrames X.base l->s.heap.FunFrames X.base l:=by
  intro l;induction l with
  |nil=>intro _ _;trivial
  |cons env r ih=>
   intro hs hl;o!⟨hk,⟨L,o,hf,hn,ho,hd⟩,hr⟩:=hl;h! hL:L∈X.fs:=hs L (by u! frs;rw[List.filterMap_cons,hf];~List.mem_cons_self);o!⟨sl,e⟩:=I.base.slot L o ho (I.ok.xP L hL) hL λz=>I.ok.Em L z hL;~\(hk,\(L,_,hf,hn,e,hd),ih (λb hb=>hs b (by u! frs;rw[List.filterMap_cons,hf];~List.mem_cons_of_mem _ hb)) hr)
 ~all X.outer (λ_ hb=>hb) I.ok.nQ
T! Inv.stack(I:I!):s.heap.FunFrames X.base X.stack:=by
 rcases I.ok.Nx with e|⟨e,hf⟩;·rw[e];~I.nQ
 ·rw[e]
  o!⟨m,hn,_⟩:=I.loc;r! .cons (by rw[I.ok.kind];decide) hf hn ?_ I.nQ;~Heap.get?_none_of_le (Nat.le_trans I.ok.uc I.ok.above)
T! Inv.Ny(I:I!):∀b∈frs X.stack,b∈X.env.locals::X.fs:=λb hb=>by
 rcases I.ok.Nx with e|⟨e,hf⟩;·rw[e]at hb;~List.mem_cons_of_mem _ hb
 ·rw[e]at hb
  u! frs at hb;rw[List.filterMap_cons,hf]at hb;~hb
T! Inv.Xz(I:I!):∀b∈frs X.stack,H b=none:=λb hb=>by
 rcases List.mem_cons.mp (I.Ny b hb)with e|hb;·rw[e];~I.free
 ·o!⟨_,o,ho,_⟩:=I.ok.nQ.mem hb
  ~I.base.free b o ho (I.ok.xP b hb) λz=>I.ok.Em b z hb
T! Inv.step{g':Array GenState}{t':Nat}{d':Drawn}{ch:List Addr}(I:I!)
    (hch:∀b∈ch,(b∈X.ex\/X.s₀.heap.objs.size<=b)/\b≠X.env.locals/\(∀x c,X.env.cells.lookup x=some c->c≠b)/\∀p∈X.pn++pins,p.1≠b)
    (keep:∀b o,b≠X.env.locals->b∉X.fs->b∉ch->s.heap.get? b=some o->H b=none->h'.get? b=some o)
    (slot:∀b o,b≠X.env.locals->b∈X.fs->b∉ch->s.heap.get? b=some o->H b=none->∃sl,h'.get? b=some {o with slots:=sl})(free:∀b o,b∉ch->s.heap.get? b=some o->H b=none->H' b=none)
    (there:∀b o,b∉ch->s.heap.get? b=some o->∃o',h'.get? b=some o')
    (tups:∀b xs,H b=some (.tup xs)->H' b=some (.tup xs))(oX:∀b o u,H b=some (.nP o u)->H' b=some (.nP o u))(o7:∀b ps,H b=some (.iZ ps)->∃more,H' b=some (.iZ (ps++more)))
    (ns:∀m,s.heap.Ns X.env.locals m->h'.Ns X.env.locals m)(hok:fG X.prog X.w H' h')(hg:AllBare g'):
    Inv X pins σ H' {s with heap:=h',gens:=g',drawn:=d',toks:=t'}:=by
 h! neL:∀b o,X.s₀.heap.get? b=some o->b≠X.env.locals:=λb o e=>Nat.ne_of_lt (Nat.lt_of_lt_of_le (Heap.lt_size e) I.ok.above);h! Mi:∀b o,X.s₀.heap.get? b=some o->b∉X.ex->b∉ch:=λb o e hx hb=>by
  rcases(hch b hb).1 with z|z;·~hx z
  ·~absurd (Nat.lt_of_lt_of_le (Heap.lt_size e) z) (Nat.lt_irrefl _)
 h! cellK:∀x c,X.env.cells.lookup x=some c->∀v,s.heap.IsCell c v->h'.IsCell c v:=λx c e v \(o,ho,hd)=>by
  h! GJ:c∉ch:=λz=>(hch c z).2.2.1 x c e rfl;by_cases hc:c∈X.fs
  ·o!⟨sl,q⟩:=slot c o (I.qt x c e) hc GJ ho (I.pJ x c e)
   ~\(_,q,hd)
  ·~\(o,keep c o (I.qt x c e) hc GJ ho (I.pJ x c e),hd)
 r!\(I.ok,I.os,hg,\(λb o e n hb hx=>?_,λb o e n hb hx=>?_,λb o e n hx=>?_,λb o e hx=>?_,λb xs e=>tups b xs (I.base.tups b xs e),λb o xs e=>oX b o xs (I.base.oX b o xs e),λb ps e=>?_),?_,λx c e=>?_,?_,λx c e=>?_,λp hp=>?_,hok,I.len);·~keep b o (neL b o e) hb (Mi b o e hx) (I.base.keep b o e n hb hx) (I.base.free b o e n hx)
 ·o!⟨sl,e1⟩:=I.base.slot b o e n hb hx
  o!⟨sl',e2⟩:=slot b _ (neL b o e) hb (Mi b o e hx) e1 (I.base.free b o e n hx);~\(sl',e2)
 ·o!⟨o',e1⟩:=I.base.there b o e hx
  ~free b o' (Mi b o e hx) e1 (I.base.free b o e n hx)
 ·o!⟨o',e1⟩:=I.base.there b o e hx
  ~there b o' (Mi b o e hx) e1
 ·o!⟨m1,e1⟩:=I.base.o7 b ps e
  o!⟨m2,e2⟩:=o7 b _ e1;~\(m1++m2,by rw[e2,Array.append_assoc])
 ·o!⟨m,hn,hl⟩:=I.loc
  r!\(m,ns m hn,λi x v e1 e2 e3=>?_);o!⟨u,r,l⟩:=hl i x v e1 e2 e3;r!\(u,r,?_);rcases l with l|⟨k,c,e,z⟩;·~.inl l
  ·~.inr \(k,c,e,cellK x c e _ z)
 ·o!⟨v,z⟩:=I.cell x c e
  ~\(v,cellK x c e v z)
 ·o!⟨m,⟨o,_,_,ho,_⟩,_⟩:=I.loc
  ~free _ o (λz=>(hch _ z).2.1 rfl) ho I.free
 ·o!⟨v,o,ho,hd⟩:=I.cell x c e
  ~free c o (λz=>(hch c z).2.2.1 x c e rfl) ho (I.pJ x c e)
 ·o!⟨e,n,ne,nf,d⟩:=I.pin p hp
  h! GJ:p.1∉ch:=λz=>(hch p.1 z).2.2.2 p hp rfl;~\(keep p.1 p.2 ne nf GJ e n,free p.1 p.2 GJ e n,ne,nf,d)
T! Inv.un{t':Nat}(I:I!)(u:Un X.fs [] H H' s.heap h')(hok:fG X.prog X.w H' h'):Inv X pins σ H' {s with heap:=h',toks:=t'}:=by
 o!⟨m,⟨o,es,ep,ho,r⟩,_⟩:=id I.loc;o!⟨sl,hL⟩:=u.any ho I.free (by simp);~I.step (g':=s.gens) (d':=s.drawn) (ch:=[]) (λ_ z=>nomatch z) (λb o _ hb _ e n=>u.keep b o e n hb (by simp)) (λb o _ hb _ e n=>u.slot b o e n hb (by simp)) (λb o _ e n=>u.free b o e n (by simp)) (λb o _ e=>u.there b o e (by simp)) u.tups u.oX u.o7 (λm' hm=>by
  o!⟨o',Q4,Q3,ye,r'⟩:=hm;rw[ho]at ye;c! ye;~\(_,Q4,Q3,hL,r')) hok I.bare
T! Inv.call{g':Array GenState}{t':Nat}{d':Drawn}{ch:List Addr}(I:I!)(u:Un (frs X.stack) ch H H' s.heap h')(hok:fG X.prog X.w H' h')(hg:AllBare g')
    (hch:∀b∈ch,(b∈X.ex\/X.s₀.heap.objs.size<=b)/\b≠X.env.locals/\(∀x c,X.env.cells.lookup x=some c->c≠b)/\∀p∈X.pn++pins,p.1≠b):
    Inv X pins σ H' {s with heap:=h',gens:=g',drawn:=d',toks:=t'}:=by
 o!⟨m,⟨o,es,ep,ho,r⟩,_⟩:=id I.loc;o!⟨sl,hL⟩:=u.any ho I.free λz=>(hch _ z).2.1 rfl;~I.step (ch:=ch) hch (λb o hL hb hc e n=>u.keep b o e n (λz=>(List.mem_cons.mp (I.Ny b z)).elim hL hb) hc) (λb o _ _ hc e n=>u.any e n hc) (λb o hc e n=>u.free b o e n hc) (λb o hc e=>u.there b o e hc) u.tups u.oX u.o7 (λm' hm=>by
  o!⟨o',Q4,Q3,ye,r'⟩:=hm;rw[ho]at ye;c! ye;~\(_,Q4,Q3,hL,r')) hok hg
T! Inv.turned{t':Nat}{it:Addr}(I:I!)(k:∀b o,b≠it->s.heap.get? b=some o->h'.get? b=some o)(hn:H it=none)(hL:it≠X.env.locals)
    (h1:it∈X.ex\/X.s₀.heap.objs.size<=it)(h2:∀x c,X.env.cells.lookup x=some c->c≠it)(h3:∀p∈X.pn++pins,p.1≠it):Inv X pins σ H {s with heap:=h',toks:=t'}:=by
 h! nit:∀b u,H b=some u->b≠it:=λb u e z=>by rw[z,hn]at e;c! e
 r! I.step (g':=s.gens) (d':=s.drawn) (ch:=[it]) (λb hb=>?_) (λb o _ _ hc e _=>k b o (λz=>hc (by simp[z])) e) (λb o _ _ hc e _=>\(o.slots,k b o (λz=>hc (by simp[z])) e)) (λ_ _ _ _ n=>n)
  (λb o hc e=>\(o,k b o (λz=>hc (by simp[z])) e)) (λ_ _ e=>e) (λ_ _ _ e=>e) (λb ps e=>\(#[],by rw[e];simp)) (λm hm=>?_) (λb u e=>?_) I.bare
 ·h! e:b=it:=by simpa using hb
  subst e;~\(h1,hL,h2,h3)
 ·o!⟨o,es,ep,ho,r⟩:=hm
  ~\(o,es,ep,k _ o (Ne.symm hL) ho,r)
 ·r!(I.hok b u e).uQ (λc v hc q=>k c v ?_ q) (λ_ q=>q) λ_ _ q=>q
  rcases hc with z|z;·rw[z];~nit b u e
  ·~nit c _ z
T! Inv.tok(I:I!)(t:Nat):Inv X pins σ H {s with toks:=t}:=I.un (h':=s.heap) (t':=t) Un.refl I.hok
T! Inv.kept{t':Nat}(I:I!)(k:∀b u,s.heap.get? b=some u->h'.get? b=some u):Inv X pins σ H {s with heap:=h',toks:=t'}:=I.un (Un.kept k) (I.hok.kept k)
T! Inv.laid{a:Addr}{o:HO}{t':Nat}(I:I!)(k:∀b u,s.heap.get? b=some u->h'.get? b=some u)(hp:s.heap.objs.size<=a)(new:ir X.prog X.w (upd H a o) h' a o):
    Inv X pins σ (upd H a o) {s with heap:=h',toks:=t'}:=I.un (Un.laid k hp (I.hok.fresh hp)) (I.hok.laid k hp new)
T! Inv.write{x e:Addr}{o:HO}{t':Nat}(I:I!)(mu:Dr (H x))(he:e=x\/H e=some (.own x))(k:∀b u,b≠e->s.heap.get? b=some u->h'.get? b=some u)(heo:∃u,h'.get? e=some u)
    (new:ir X.prog X.w (upd H x o) h' x o):Inv X pins σ (upd H x o) {s with heap:=h',toks:=t'}:=I.un (Un.write mu he k heo) (I.hok.write mu he k heo new)
T! Inv.weak{σ':List (Option V)}(I:I!)(hl:σ'.length=σ.length)(w:∀(i:Nat) v,σ'[i]?=some (some v)->σ[i]?=some (some v)):Inv X pins σ' H s:=
 \(I.ok,I.os,I.bare,I.base,let\(m,hn,hl'):=I.loc;\(m,hn,λi x v e1 e2 e3=>hl' i x v e1 (w i v e2) e3),I.cell,I.free,I.pJ,I.pin,I.hok,hl.trans I.len)
T! Inv.adh{Bw:L!}(I:I!)(h:∀p∈Bw,s.heap.get? p.1=some p.2/\H p.1=none/\p.1≠X.env.locals/\p.1∉X.fs/\∀v,p.2.data≠.cell v):Inv X Bw σ H s:=
 \(I.ok,I.os,I.bare,I.base,I.loc,I.cell,I.free,I.pJ,λp hp=>(List.mem_append.mp hp).elim (λz=>I.pin p (List.mem_append_left _ z)) (h p),I.hok,I.len)
T! Td{N:List Str}(hN:N.Nodup){i j:Nat}{x:Str}(a:N[i]?=some x)(b:N[j]?=some x):i=j:=by
 o!⟨h1,e1⟩:=List.getElem?_eq_some_iff.mp a;o!⟨h2,e2⟩:=List.getElem?_eq_some_iff.mp b;~(List.getElem_inj hN).mp (e1.trans e2.symm)
T! afu{M:Model}{A:Around}{E:B!}{i:Nat}{x:Str}{v:V}{u:Value}{Q:Unit->Shared->Prop}(I:I!)(hN:X.N.Nodup)(hi:X.N[i]?=some x)(hx:Loc X.env.scope x)(r:RelV v u)
    (h:∀s',Inv X pins (σ.set i (some v)) H s'->(∃a,Heap.SameBut a s.heap s'.heap/\(a=X.env.locals\/X.env.cells.lookup x=some a))->Q () s')(hf:V!:=by O!):wpAny M A (storeName X.env x u) Q E s:=by
 o!⟨m,hn,hl⟩:=id I.loc;h! Rx:(X.env.scope.kind==.class||(X.env.scope.kind==.module&&X.env.locals !=X.env.globals))=false:=by rw[I.ok.kind];rfl
 h! K9:i<σ.length:=by rw[I.len];~(List.getElem?_eq_some_iff.mp hi).1
 h! qt:=I.qt;h! tracked:∀{a:Addr} {h':Heap},(∃o,s.heap.get? a=some o/\H a=none)->Heap.SameBut a s.heap h'->fG X.prog X.w H h':=λ{a h'} ha hs b ob e=>by
  o!⟨_,_,hfree⟩:=ha;r!(I.hok b ob e).uQ (λc w' hc q=>(hs.2 c ?_).trans q) (λ_ q=>q) λ_ _ q=>q
  rintro rfl
  rcases hc with rfl|hc;·rw[hfree]at e;c! e
  ·rw[hfree]at hc;c! hc
 rcases hx with hk|hk
 ·r! wpAny_storeName_local hk hn (λh' v7 hs=>?_) Rx
  o!⟨oL,_,_,RM,_⟩:=id hn;r! h _ \(I.ok,I.os,I.bare,\(λb o e n hb hx=>?_,λb o e n hb hx=>?_,I.base.free,λb o e hx=>?_,I.base.tups,I.base.oX,I.base.o7),\(_,v7,λj y v' e1 e2 e3=>?_),λy c e=>?_,I.free,I.pJ,λp hp=>?_,tracked \(oL,RM,I.free) hs,by simpa using I.len) \(_,hs,.inl rfl);·~(hs.2 b (Nat.ne_of_lt (Nat.lt_of_lt_of_le (Heap.lt_size e) I.ok.above))).trans (I.base.keep b o e n hb hx)
  ·o!⟨sl,e1⟩:=I.base.slot b o e n hb hx
   ~\(sl,(hs.2 b (Nat.ne_of_lt (Nat.lt_of_lt_of_le (Heap.lt_size e) I.ok.above))).trans e1)
  ·o!⟨o',e1⟩:=I.base.there b o e hx
   ~\(o',(hs.2 b (Nat.ne_of_lt (Nat.lt_of_lt_of_le (Heap.lt_size e) I.ok.above))).trans e1)
  ·by_cases hj:j=i
   ·subst hj
    rw[hi]at e1;c! e1;rw[List.getElem?_set_self K9]at e2;c! e2;~\(u,r,.inl \(hk,by simp))
   ·rw[List.getElem?_set_ne (Ne.symm hj)]at e2
    o!⟨u',r',q⟩:=hl j y v' e1 e2 e3;r!\(u',r',?_);rcases q with⟨k,e⟩|⟨k,c,e,z⟩
    ·r! .inl \(k,?_)
     h!:y≠x:=λe=>hj (Td hN e1 (e▸hi));simp[this,e]
    ·~.inr \(k,c,e,z.sameBut hs (qt y c e))
  ·o!⟨w',z⟩:=I.cell y c e
   ~\(w',z.sameBut hs (qt y c e))
  ·o!⟨e,n,ne,nf,d⟩:=I.pin p hp
   ~\((hs.2 p.1 ne).trans e,n,ne,nf,d)
 ·h! Gi:X.fn x=true:=by
   rcases hf with z|z;·~z
   ·rw[z]at hk;c! hk
  o!⟨c,hc⟩:=I.ok.has x (.inl hk);o!⟨w',z⟩:=I.cell x c hc;r! wpAny_storeName_cell I.ok.kind hk hc z (λh' xY hs=>?_);o!⟨oc,hoc,aj0⟩:=id z;r! h {s with heap:=h'} \(I.ok,I.os,I.bare,\(λb o e n hb hx=>?_,λb o e n hb hx=>?_,I.base.free,λb o e hx=>?_,I.base.tups,I.base.oX,I.base.o7),\(m,hn.sameBut hs (Ne.symm (qt x c hc)),λj y v' e1 e2 e3=>?_),λy c' e=>?_,I.free,I.pJ,λp hp=>?_,tracked \(oc,hoc,I.pJ x c hc) hs,by simpa using I.len) \(c,hs,.inr hc);·~(hs.2 b (Nat.ne_of_lt (Nat.lt_of_lt_of_le (Heap.lt_size e) (I.ok.cab x c Gi hc)))).trans (I.base.keep b o e n hb hx)
  ·o!⟨sl,e1⟩:=I.base.slot b o e n hb hx
   ~\(sl,(hs.2 b (Nat.ne_of_lt (Nat.lt_of_lt_of_le (Heap.lt_size e) (I.ok.cab x c Gi hc)))).trans e1)
  ·o!⟨o',e1⟩:=I.base.there b o e hx
   ~\(o',(hs.2 b (Nat.ne_of_lt (Nat.lt_of_lt_of_le (Heap.lt_size e) (I.ok.cab x c Gi hc)))).trans e1)
  ·by_cases hj:j=i
   ·subst hj
    rw[hi]at e1;c! e1;rw[List.getElem?_set_self K9]at e2;c! e2;~\(u,r,.inr \(.inl hk,c,hc,xY))
   ·rw[List.getElem?_set_ne (Ne.symm hj)]at e2
    o!⟨u',r',q⟩:=hl j y v' e1 e2 e3;r!\(u',r',?_);rcases q with q|⟨k,c',e,z'⟩;·~.inl q
    ·r! .inr \(k,c',e,z'.sameBut hs ?_)
     rintro rfl
     ~hj (Td hN e1 (I.ok.inj _ _ _ e hc▸hi))
  ·by_cases K5:c'=c
   ·subst K5;~\(_,xY)
   ·o!⟨w2,z2⟩:=I.cell y c' e
    ~\(w2,z2.sameBut hs K5)
  ·o!⟨e,n,ne,nf,d⟩:=I.pin p hp
   r!\((hs.2 p.1 ?_).trans e,n,ne,nf,d);intro q;rw[q,hoc]at e;h! q':oc=p.2:=Option.some.inj e;~d w' (by rw[<-q'];~aj0)
T! XC{M:Model}{A:Around}{E:B!}{i:Nat}{x:Str}{v:V}{u:Value}{Q:Unit->Shared->Prop}(I:I!)(hN:X.N.Nodup)(hi:X.N[i]?=some x)(hx:Loc X.env.scope x)(r:RelV v u)
    (h:∀s',Inv X pins (σ.set i (some v)) H s'->Q () s')(hf:V!:=by O!):wpAny M A (storeName X.env x u) Q E s:=
 afu I hN hi hx r (λs' I' _=>h s' I') hf
T! Inv.aaw{s':Shared}{ch:List Addr}(I:I!)(ho:s'.os=s.os)(u:Un (frs X.stack) ch H H' s.heap s'.heap)(hok:fG X.prog X.w H' s'.heap)(hg:AllBare s'.gens)
    (hch:∀b∈ch,(b∈X.ex\/X.s₀.heap.objs.size<=b)/\b≠X.env.locals/\(∀x c,X.env.cells.lookup x=some c->c≠b)/\∀p∈X.pn++pins,p.1≠b):Inv X pins σ H' s':=by
 o!⟨h',g',d',t',o'⟩:=s';h! e:o'=s.os:=ho;subst e;~I.call (g':=g') (t':=t') (d':=d') u hok hg hch
end
A! XK:=Value->Option Addr->Hp->Prop
A! St:=List (Option V)
A! VK:=V->Hp->Prop
A! TE:=St->Hp->VK->Prop
A! TT:=St->Hp->(Bool->Hp->Prop)->Prop
A! TA:=St->Hp->(List V->Hp->Prop)->Prop
structure Ends where
 nx:St->Hp->Prop
 rt:VK
 bk:St->Hp->Prop:=λ_ _=>False
 ct:St->Hp->Prop:=λ_ _=>False
A! TS:=Ends->St->Hp->Prop
D! EP(X:Cx)(pins:L!)(σ:St)(Q:VK)(u:Value)(s':Shared):Prop:=∃v H',Inv X pins σ H' s'/\RelV v u/\Q v H'
D! TP(X:Cx)(pins:L!)(σ:St)(Q:Bool->Hp->Prop)(b:Bool)(s':Shared):Prop:=∃H',Inv X pins σ H' s'/\Q b H'
D! AP(X:Cx)(pins:L!)(σ:St)(Q:List V->Hp->Prop)(us:List Value)(s':Shared):Prop:=∃vs H',Inv X pins σ H' s'/\Vals vs us/\Q vs H'
D! SP(X:Cx)(pins:L!)(D:Ends)(f:Flow)(s':Shared):Prop:=
 match f with
 |.next=>∃σ' H',Inv X pins σ' H' s'/\D.nx σ' H'
 |.brk=>∃σ' H',Inv X pins σ' H' s'/\D.bk σ' H'
 |.cont=>∃σ' H',Inv X pins σ' H' s'/\D.ct σ' H'
 |.ret u=>∃v σ' H',Inv X pins σ' H' s'/\RelV v u/\D.rt v H'
D! PE(X:Cx)(e:Expr)(t:TE):Prop:=
 ∀(pins:L!) (s:Shared) (σ:St) (H:Hp) (Q:VK),I!->t σ H Q->wpAny M! X.A (eval e X.env) (EP X pins σ Q) X.xe s
D! PT(X:Cx)(e:Expr)(t:TT):Prop:=
 ∀(pins:L!) (s:Shared) (σ:St) (H:Hp) (Q:Bool->Hp->Prop),I!->t σ H Q->wpAny M! X.A (isTrue e X.env (eval e X.env)) (TP X pins σ Q) X.xe s
D! PW(X:Cx)(e:Expr)(t:TT):Prop:=
 ∀(whole:Sem Value) (pins:L!) (s:Shared) (σ:St) (H:Hp) (Q:Bool->Hp->Prop),I!->t σ H Q->wpAny M! X.A (isTrue e X.env whole) (TP X pins σ Q) X.xe s
T! PW.pt{X:Cx}{e:Expr}{t:TT}(h:PW X e t):PT X e t:=h _
D! PA(X:Cx)(es:List Expr)(t:TA):Prop:=
 ∀(pos:Pos) (pins:L!) (s:Shared) (σ:St) (H:Hp) (Q:List V->Hp->Prop),I!->t σ H Q->wpAny M! X.A (spliced (backTo pos (starEach es X.env))) (AP X pins σ Q) X.xe s
D! PS(X:Cx)(st:Stmt)(t:TS):Prop:=
 ∀(pins:L!) (s:Shared) (σ:St) (H:Hp) (D:Ends),I!->t D σ H->wpAny M! X.A (exec st X.env) (SP X pins D) X.xe s
D! lJ(X:Cx)(st:List Stmt)(t:TS):Prop:=
 ∀(pins:L!) (s:Shared) (σ:St) (H:Hp) (D:Ends),I!->t D σ H->wpAny M! X.A (execs st X.env) (SP X pins D) X.xe s
T! bM{α:Type}{t:Sem α}{Q Q':α->Shared->Prop}{M:Model}{A:Around}{E:B!}{s:Shared}(h:wpAny M A t Q E s)(hQ:∀a s,Q a s->Q' a s):wpAny M A t Q' E s:=wpAny_mono h hQ λ_ _ x=>x
end L2
namespace L2
open PySem PySem.Spec PyProof.Rows
section
variable{X:Cx}
D! aq4(i:Nat):TE:=λσ H Q=>∃v,σ[i]?=some (some v)/\Q v H
D! tC(v:V):TE:=λ_ H Q=>Q v H
T! Bv{i:Nat}{x:Str}{pos:Pos}(hN:X.N[i]?=some x)(hv:zm X.env.scope x)(hd:E!:=by decide)(hcd:(x==("__classdict__":Str))=false:=by decide):PE X (.Name x pos) (aq4 i):=by
 intro pins s σ H Q I h;o!⟨v,e,h⟩:=h;o!⟨m,hn,hl⟩:=I.loc;o!⟨u,r,l⟩:=hl i x v hN e hv;h! fin:EP X pins σ Q u s:=\(v,H,I,r,h);rcases l with⟨hk,hm⟩|⟨hk,c,hc,hcell⟩;·~wpAny_Name (wpAny_loadName_local I.ok.kind hk hn hm fin) hd
 ·rcases hk with hk|hk
  ·~wpAny_Name (wpAny_loadName_cell I.ok.kind hk hc hcell fin) hd
  ·~wpAny_Name (wpAny_loadName_free I.ok.kind hk hc hcell fin hcd) hd
T! anU{i j pos}:PE X (.Constant (.int i) j pos) (tC (.int i)):=λ_ _ _ H _ I h=>wpAny_Constant_int \(.int i,H,I.tok _,\(_,rfl),h)
T! anJ{b j pos}:PE X (.Constant (.bool b) j pos) (tC (.bl b)):=λ_ _ _ H _ I h=>Constant_bool \(.bl b,H,I,rfl,h)
T! an0{j pos}:PE X (.Constant .none j pos) (tC .non):=λ_ _ _ H _ I h=>Constant_none \(.non,H,I,rfl,h)
T! ada{x j pos}:PE X (.Constant (.str x) j pos) (tC (.str x)):=λ_ _ _ H _ I h=>Calls.Constant_str \(.str x,H,I.tok _,\(_,rfl),h)
D! Gl(X:Cx)(x:Str):Prop:=X.env.kindOf x=some .globalImplicit
T! ym{E:B!}{pins:L!}{s:Shared}{σ:St}{H:Hp}{x:Str}{u:Value}{pos:Pos}{Q:B!}(I:I!)(hg:Gl X x)(hm:X.mg x=some u)(h:Q u s)
    (hd:E!:=by decide):wpAny M! X.A (eval (.Name x pos) X.env) Q E s:=
 Calls.Name_function_global I.ok.kind hg (Calls.loadGlobal_global (by rw[I.ok.glob];~I.mod.glob.keeps I.bk) hm h) hd
T! Lw{E:B!}{pins:L!}{s:Shared}{σ:St}{H:Hp}{x:Str}{u:Value}{pos:Pos}{Q:B!}(I:I!)(hg:Gl X x)(hm:X.mg x=none)(hv:bootBuiltins x=some u)(h:Q u s)
    (hn:x≠"__name__":=by decide)(hd:E!:=by decide):wpAny M! X.A (eval (.Name x pos) X.env) Q E s:=by
 o!⟨mb,h1,h2⟩:=I.mod.blt;~Calls.Name_function_global I.ok.kind hg (Calls.loadGlobal_builtin (by rw[I.ok.glob];~I.mod.glob.keeps I.bk) hm (by rw[I.ok.blt];~h1.keeps I.bk) ((h2 x hn).trans hv) h) hd
T! anT{x:Str}{v:V}{u:Value}{pos:Pos}(hg:Gl X x)(hm:X.mg x=some u)(r:RelV v u)(hd:E!:=by decide):PE X (.Name x pos) (tC v):=
 λ_ _ _ H _ I h=>ym I hg hm \(v,H,I,r,h) hd
T! anK{x:Str}{v:V}{u:Value}{pos:Pos}(hg:Gl X x)(hm:X.mg x=none)(hv:bootBuiltins x=some u)(r:RelV v u)(hn:x≠"__name__":=by decide)(hd:E!:=by decide):PE X (.Name x pos) (tC v):=
 λ_ _ _ H _ I h=>Lw I hg hm hv \(v,H,I,r,h) hn hd
variable{a b:Expr}{ta tb:TE}{pos:Pos}
D! tB(t:TE):TT:=λσ H Q=>t σ H λx H1=>∃c,x=.bl c/\Q c H1
variable{tA NB:TT}{rest:List Expr}
D! aqE(t u:TT):TT:=λσ H Q=>t σ H λc H1=>if c=true then u σ H1 Q else Q false H1
D! tOr(t u:TT):TT:=λσ H Q=>t σ H λc H1=>if c=true then Q true H1 else u σ H1 Q
D! aqU(t:TT):TT:=λσ H Q=>t σ H λc H1=>Q (!c) H1
T! ady(ha:PT X a tA):PW X (.BoolOp .And [a] pos) tA:=by
 intro wh pins s σ H Q I h;r! isTrue_and (bM (ha pins s σ H Q I h) λc s1 e=>?_);cases c with
 |true=>~isTrue_and_nil e
 |false=>~e
T! aoG(ha:PT X a tA):PW X (.BoolOp .Or [a] pos) tA:=by
 intro wh pins s σ H Q I h;r! isTrue_or (bM (ha pins s σ H Q I h) λc s1 e=>?_);cases c with
 |false=>~isTrue_or_nil e
 |true=>~e
T! adx(ha:PT X a tA)(hb:PW X (.BoolOp .And (b::rest) pos) NB):PW X (.BoolOp .And (a::b::rest) pos) (aqE tA NB):=by
 intro wh pins s σ H Q I h;r! isTrue_and (bM (ha pins s σ H _ I h) λc s1 \(H1,I1,q1)=>?_);cases c with
 |true=>~hb wh pins s1 σ H1 Q I1 q1
 |false=>~\(H1,I1,q1)
T! aoF(ha:PT X a tA)(hb:PW X (.BoolOp .Or (b::rest) pos) NB):PW X (.BoolOp .Or (a::b::rest) pos) (tOr tA NB):=by
 intro wh pins s σ H Q I h;r! isTrue_or (bM (ha pins s σ H _ I h) λc s1 \(H1,I1,q1)=>?_);cases c with
 |true=>~\(H1,I1,q1)
 |false=>~hb wh pins s1 σ H1 Q I1 q1
T! aoz(ha:PT X a tA):PT X (.UnaryOp .Not a pos) (aqU tA):=by
 intro pins s σ H Q I h;~isTrue_not (ha pins s σ H (λc H1=>Q (!c) H1) I h)
D! aqF(ta tb:TE):TE:=λσ H Q=>ta σ H λx H1=>∃c,x=.bl c/\if c=true then tb σ H1 Q else Q (.bl false) H1
D! aqW(ta tb:TE):TE:=λσ H Q=>ta σ H λx H1=>∃c,x=.bl c/\if c=true then Q (.bl true) H1 else tb σ H1 Q
D! aqV(ta:TE):TE:=λσ H Q=>ta σ H λx H1=>∃c,x=.bl c/\Q (.bl (!c)) H1
T! an2{op}{t:TE}(h:PE X a t):PE X (.BoolOp op [a] pos) t:=λpins s σ H Q I hw=>BoolOp_one (h pins s σ H Q I hw)
T! anI(ha:PE X a ta)(hb:PE X (.BoolOp .And (b::rest) pos) tb):PE X (.BoolOp .And (a::b::rest) pos) (aqF ta tb):=by
 intro pins s σ H Q I h;r! BoolOp_and (bM (ha pins s σ H _ I h) λv s1 \(x,H1,I1,r1,q1)=>?_);o!⟨c,rfl,q1⟩:=q1;c! r1;r! wpAny_truthy_bool ?_;cases c with
 |true=>~hb pins s1 σ H1 Q I1 q1
 |false=>~\(.bl false,H1,I1,rfl,q1)
T! an4(ha:PE X a ta)(hb:PE X (.BoolOp .Or (b::rest) pos) tb):PE X (.BoolOp .Or (a::b::rest) pos) (aqW ta tb):=by
 intro pins s σ H Q I h;r! BoolOp_or (bM (ha pins s σ H _ I h) λv s1 \(x,H1,I1,r1,q1)=>?_);o!⟨c,rfl,q1⟩:=q1;c! r1;r! wpAny_truthy_bool ?_;cases c with
 |false=>~hb pins s1 σ H1 Q I1 q1
 |true=>~\(.bl true,H1,I1,rfl,q1)
T! an1(ha:PE X a ta):PE X (.UnaryOp .Not a pos) (aqV ta):=by
 intro pins s σ H Q I h;r! UnaryOp_ (bM (ha pins s σ H _ I h) λv s1 \(x,H1,I1,r1,q1)=>?_);o!⟨c,rfl,q1⟩:=q1;c! r1;~not_of (wpAny_truthy_bool \(.bl (!c),H1,I1,rfl,q1))
D! tIf(t:TT)(ta tb:TE):TE:=λσ H Q=>t σ H λc H1=>if c=true then ta σ H1 Q else tb σ H1 Q
T! ac7{c:Expr}(hc:PT X c tA)(ha:PE X a ta)(hb:PE X b tb):PE X (.IfExp c a b pos) (tIf tA ta tb):=by
 intro pins s σ H Q I h;r! wpAny_IfExp (bM (hc pins s σ H _ I h) λd s1 \(H1,I1,q1)=>?_);cases d with
 |true=>~ha pins s1 σ H1 Q I1 q1
 |false=>~hb pins s1 σ H1 Q I1 q1
end
end L2
namespace L2
open PySem PySem.Spec PyProof.Rows
D! jy(K:PySem.W.Frag)(H:Hp)(a:Addr)(xs:List V):Prop:=
 Rd H a (.lst xs)\/
  ∃(o:Obj) (its:Array Value) (n:Nat),K.lookup a=some o/\o.cls=.type "list"/\o.dict=none/\o.data=.seq its n/\its.size<=sizeLine/\Vals xs its.toList
D! lY(K:PySem.W.Frag)(H:Hp)(a:Addr)(xs:List V):Prop:=
 Rd H a (.tup xs)\/
  ∃(o:Obj) (its:Array Value) (n:Nat),K.lookup a=some o/\o.cls=.type "tuple"/\o.data=.seq its n/\its.size<=sizeLine/\Vals xs its.toList
D! ahx:Value->Option V
 |.none=>some .non
 |.bool b=>some (.bl b)
 |.int i _=>some (.int i)
 |.str x _=>some (.str x)
 |.bytes b _=>some (.nG b)
 |.float b _=>some (.flt b)
 |.ref a=>some (.ref a)
 |.type n=>some (.ty n)
 |_=>none
T! RelV.abs{x:V}{u:Value}(r:RelV x u):ahx u=some x:=by
 cases x with
 |non=>c! r;rfl
 |bl _=>c! r;rfl
 |int _=>o!⟨t,rfl⟩:=r;rfl
 |str _=>o!⟨t,rfl⟩:=r;rfl
 |nG _=>o!⟨t,rfl⟩:=r;rfl
 |flt _=>o!⟨t,rfl⟩:=r;rfl
 |ref _=>c! r;rfl
 |ty _=>c! r;rfl
T! RelV.inj{x y:V}{u:Value}(r:RelV x u)(q:RelV y u):x=y:=Option.some.inj (r.abs.symm.trans q.abs)
T! Vals.inj:∀{xs ys:List V} {us:List Value},Vals xs us->Vals ys us->xs=ys
 |_,_,_,.nil,.nil=>rfl
 |_,_,_,.cons r t,.cons r' t'=>by rw[r.inj r',Vals.inj t t']
section
variable{X:Cx}{pins:L!}{σ:St}{H:Hp}{s:Shared}{a:Addr}{xs ys:List V}
T! Inv.list(I:I!)(h:jy X.K H a xs):∃its:List Value,Vals xs its/\PlainL s.heap a its.toArray/\xs.length<=sizeLine:=by
 rcases h with h|⟨o,its,n,hk,hc,hd,hs,hz,r⟩
 ·o!⟨z,its,n,r,e⟩:=h.ok I.hok
  ~\(its,r,\(_,n,e,rfl,rfl,rfl),z)
 ·r!\(its.toList,r,\(o,n,I.eY a o hk,hc,hd,by simpa using hs),?_)
  h! e:=r.length;S![Array.length_toList]at e;om
T! Inv.tuple(I:I!)(h:lY X.K H a xs):∃its:List Value,Vals xs its/\IsTup s.heap a its.toArray/\xs.length<=sizeLine:=by
 rcases h with h|⟨o,its,n,hk,hc,hs,hz,r⟩
 ·o!⟨z,its,r,p⟩:=h.ok I.hok
  ~\(its,r,p,z)
 ·r!\(its.toList,r,\(o,I.eY a o hk,hc,n,by simpa using hs),?_)
  h! e:=r.length;S![Array.length_toList]at e;om
T! Inv.akL(I:I!)(h:jy X.K H a xs)(h':jy X.K H a ys):xs=ys:=by
 o!⟨its,r,⟨o,n,e,_,_,d⟩,_⟩:=I.list h;o!⟨its',r',⟨o',n',e',_,_,d'⟩,_⟩:=I.list h';rw[e]at e';c! e';rw[d]at d';injection d' with d1 _;h!:its=its':=by simpa using congrArg Array.toList d1
 subst this;~r.inj r'
T! Inv.arC(I:I!)(h:lY X.K H a xs)(h':lY X.K H a ys):xs=ys:=by
 o!⟨its,r,⟨o,e,_,n,d⟩,_⟩:=I.tuple h;o!⟨its',r',⟨o',e',_,n',d'⟩,_⟩:=I.tuple h';rw[e]at e';c! e';rw[d]at d';injection d' with d1 _;h!:its=its':=by simpa using congrArg Array.toList d1
 subst this;~r.inj r'
end
A! Cx.pW(X:Cx)(E:B!):Cx:={X with xe:=E}
A! Cx.sO(X:Cx):Cx:=X.pW λ_ _=>False
T! Cx.Ok.pW{X:Cx}(ok:X.Ok)(E:B!):(X.pW E).Ok:=
 \(ok.mod,ok.kind,ok.glob,ok.blt,ok.above,ok.inj,ok.has,ok.cab,ok.hd,ok.frames,ok.Nx,ok.Q6,ok.bs,ok.uc,ok.GQ,ok.Em,ok.nQ,ok.xP)
T! Cx.Ok.o8{X:Cx}{E:B!}(ok:(X.pW E).Ok):X.Ok:=
 \(ok.mod,ok.kind,ok.glob,ok.blt,ok.above,ok.inj,ok.has,ok.cab,ok.hd,ok.frames,ok.Nx,ok.Q6,ok.bs,ok.uc,ok.GQ,ok.Em,ok.nQ,ok.xP)
section
variable{X:Cx}{pins:L!}{σ:St}{H:Hp}{s:Shared}{E:B!}
T! Inv.pW(I:I!)(E:B!):Inv (X.pW E) pins σ H s:=\(I.ok.pW E,I.os,I.bare,I.base,I.loc,I.cell,I.free,I.pJ,I.pin,I.hok,I.len)
T! Inv.o8(I:Inv (X.pW E) pins σ H s):I!:=\(I.ok.o8,I.os,I.bare,I.base,I.loc,I.cell,I.free,I.pJ,I.pin,I.hok,I.len)
T! SP.o8{D:Ends}{f:Flow}{s':Shared}(h:SP (X.pW E) pins D f s'):SP X pins D f s':=by
 cases f with
 |next=>o!⟨σ',H',I,q⟩:=h;~\(σ',H',I.o8,q)
 |brk=>o!⟨σ',H',I,q⟩:=h;~\(σ',H',I.o8,q)
 |cont=>o!⟨σ',H',I,q⟩:=h;~\(σ',H',I.o8,q)
 |ret u=>o!⟨v,σ',H',I,r,q⟩:=h;~\(v,σ',H',I.o8,r,q)
T! lJ.sO{st:List Stmt}{t:TS}(h:lJ X.sO st t):lJ X st t:=λpins s σ H D I hw=>
 wpAny_mono (h pins s σ H D (I.pW _) hw) (λ_ _ q=>q.o8) λ_ _ z=>False.elim z
end
section
variable{X:Cx}{st:Stmt}{rest:List Stmt}{t u:TS}{e:Expr}{te:TE}{pos:Pos}
D! aqS:TS:=λD σ H=>D.nx σ H
D! aq1(t u:TS):TS:=λD σ H=>t {D with nx:=u D} σ H
T! adt:lJ X [] aqS:=λ_ _ σ H _ I h=>wpAny_execs_nil \(σ,H,I,h)
T! adq(h1:PS X st t)(h2:lJ X rest u):lJ X (st::rest) (aq1 t u):=by
 intro pins s σ H D I h;r! wpAny_execs_cons (bM (h1 pins s σ H {D with nx:=u D} I h) λf s1 q=>?_);cases f with
 |next=>
  o!⟨σ',H',I',q⟩:=q;~h2 pins s1 σ' H' D I' q
 |ret v=>~q
 |brk=>~q
 |cont=>~q
T! U6(h1:PS X st t):lJ X [st] t:=by
 intro pins s σ H D I h;r! wpAny_execs_cons (bM (h1 pins s σ H D I h) λf s1 q=>?_);cases f with
 |next=>~wpAny_execs_nil q
 |ret v=>~q
 |brk=>~q
 |cont=>~q
D! aqH:TS:=λD σ H=>D.bk σ H
T! aop:PS X (.Break pos) aqH:=λ_ _ σ H _ I h=>wpAny_Break \(σ,H,I,h)
T! Inv.quiet{pins:L!}{σ:St}{H:Hp}{s:Shared}(I:I!):interactive X.env=false:=by simp[interactive,I.ok.kind]
D! aqL(te:TE):TS:=λD σ H=>te σ H λ_ H1=>D.nx σ H1
T! adk(he:PE X e te)(hs:swapsWith e none pos.line X.env=pure false:=by rfl):PS X (.Expr e pos) (aqL te):=by
 intro pins s σ H D I h;~wpAny_Expr_any (bM (he pins s σ H _ I h) λv s1 \(x,H1,I1,r1,q1)=>\(σ,H1,I1,q1)) I.quiet hs
D! aq0(te:TE):TS:=λD σ H=>te σ H D.rt
T! adn(he:PE X e te):PS X (.Return (some e) pos) (aq0 te):=by
 intro pins s σ H D I h;~wpAny_Return_some (bM (he pins s σ H _ I h) λv s1 \(x,H1,I1,r1,q1)=>\(x,σ,H1,I1,r1,q1))
D! aqP(c:TT)(t u:TS):TS:=λD σ H=>c σ H λb H1=>if b=true then t D σ H1 else u D σ H1
T! adm{c:Expr}{a b:List Stmt}{tc:TT}(hc:PT X c tc)(ha:lJ X a t)(hb:lJ X b u):PS X (.If c a b pos) (aqP tc t u):=by
 intro pins s σ H D I h;r! wpAny_If (bM (hc pins s σ H _ I h) λd s1 \(H1,I1,q1)=>?_);cases d with
 |true=>~ha pins s1 σ H1 D I1 q1
 |false=>~hb pins s1 σ H1 D I1 q1
end
A! TG:=V->St->Hp->(St->Hp->Prop)->Prop
D! PG(X:Cx)(target:Expr)(t:TG):Prop:=
 ∀(pins:L!) (s:Shared) (σ:St) (H:Hp) (v:V) (u:Value) (Q:St->Hp->Prop),I!->RelV v u->t v σ H Q->
  wpAny M! X.A (assign target X.env u) (λ_ s'=>∃σ' H',Inv X pins σ' H' s'/\Q σ' H') X.xe s
section
variable{X:Cx}{pos:Pos}
D! Rg(i:Nat):TG:=λv σ H Q=>Q (σ.set i (some v)) H
T! ade{i:Nat}{x:Str}(hN:X.N.Nodup)(hi:X.N[i]?=some x)(hx:Loc X.env.scope x)(hf:V!:=by O!):PG X (.Name x pos) (Rg i):=by
 intro pins s σ H v u Q I r h;~wpAny_assign_Name (XC I hN hi hx r (λs' I'=>\(_,H,I',h)) hf)
D! afA(te:TE)(g:TG):TS:=λD σ H=>te σ H λx H1=>g x σ H1 D.nx
T! ado{i:Nat}{x:Str}{e:Expr}{te:TE}{pos':Pos}(hN:X.N.Nodup)(hi:X.N[i]?=some x)(hx:Loc X.env.scope x)(he:PE X e te)(hs:swapsWith e (some (.Name x pos')) pos.line X.env=pure false:=by rfl)(hf:V!:=by O!):
    PS X (.Assign [.Name x pos'] e pos) (afA te (Rg i)):=by
 intro pins s σ H D I h;r! wpAny_Assign_Name (bM (he pins s σ H _ I h) λv s1 \(y,H1,I1,r1,q1)=>?_) hs;~XC I1 hN hi hx r1 (λs2 I2=>\(_,H1,I2,q1)) hf
end
section
variable{X:Cx}{pos:Pos}
D! aq5(c:TT)(tb:TS):TS:=λD σ H=>∃W:Nat->St->Hp->Prop,(∃m,W m σ H)/\∀m σ H,W m σ H->
 c σ H λb H1=>if b=true then∃N:St->Hp->Prop,(∀σ' H',N σ' H'->∃m',m'<m/\W m' σ' H')/\tb {D with nx:=N,ct:=N,bk:=D.nx} σ H1 else D.nx σ H1
T! adp{c:Expr}{body:List Stmt}{tc:TT}{tb:TS}(hp:PassesOwn M! X.A X.env X.xe)(hc:PT X c tc)(hb:lJ X body tb):PS X (.While c body [] pos) (aq5 tc tb):=by
 intro pins s σ H D I h;o!⟨W,⟨m0,w0⟩,turn⟩:=h;r! wpAny_While (codeAny_whileLoop (λn s'=>∃σ' H',Inv X pins σ' H' s'/\W n σ' H') ?_ m0 \(σ,H,I,w0))
 rintro n s1 ⟨eQ,H1,I1,w1⟩
 r! wpAny_passesOwn hp (bM (hc pins s1 eQ H1 _ I1 (turn n eQ H1 w1)) λb s2 \(H2,I2,q2)=>?_);cases b with
 |true=>
  o!⟨N,hN,q2⟩:=q2;rw[if_pos rfl];r! wpAny_passesOwn hp (bM (hb pins s2 eQ H2 _ I2 q2) λf s3 q3=>?_);cases f with
  |next=>
   o!⟨lC,H3,I3,n3⟩:=q3;o!⟨m',hm,w3⟩:=hN lC H3 n3;~\(m',hm,lC,H3,I3,w3)
  |cont=>
   o!⟨lC,H3,I3,n3⟩:=q3;o!⟨m',hm,w3⟩:=hN lC H3 n3;~\(m',hm,lC,H3,I3,w3)
  |brk=>~q3
  |ret v=>~q3
 |false=>
  rw[if_neg Bool.false_ne_true];~wpAny_execs_nil \(eQ,H2,I2,q2)
end
structure It where
 go:Nat->Hp->Prop
 Oi:Nat->Hp->V->Hp->Prop
 stop:Nat->Hp->Prop
D! tQ(X:Cx)(pins:L!)(H:Hp)(b:Addr):Prop:=
 H b=none/\b≠X.env.locals/\b∉X.fs/\(b∈X.ex\/X.s₀.heap.objs.size<=b)/\(∀x c,X.env.cells.lookup x=some c->c≠b)/\∀p∈X.pn++pins,p.1≠b
T! Inv.Ep{X:Cx}{pins:L!}{σ:St}{H H':Hp}{s:Shared}{b:Addr}(I:I!)(hb:s.heap.objs.size<=b)(hn:H' b=none):tQ X pins H' b:=by
 r!\(hn,Nat.ne_of_gt (Nat.lt_of_lt_of_le I.lt hb),I.alU hb,.inr (Nat.le_trans I.sz hb),λx c e z=>?_,λp hp z=>?_)
 ·o!⟨v,q⟩:=I.cell x c e
  ~absurd (Nat.lt_of_lt_of_le q.lt (by rw[z];~hb)) (Nat.lt_irrefl _)
 ·~absurd (Nat.lt_of_lt_of_le (Heap.lt_size (I.pin p hp).1) (by rw[z];~hb)) (Nat.lt_irrefl _)
structure Turn(P:Program)(w:World)(K:PySem.W.Frag)(tg:Expr)(J:It)(fp:List Addr)(it:Addr)(tn:Nat->Heap->Prop):Prop where
 mem:it∈fp
 obj:∀i h,tn i h->∀b∈fp,∃o,h.get? b=some o/\∀v,o.data≠.cell v
 keep:∀i h h',tn i h->(∀b∈fp,∀o,h.get? b=some o->h'.get? b=some o)->tn i h'
 item:∀(X:Cx),X.prog=P->X.w=w->X.K=K->X.calm=true->∀(i:Nat) (pins:L!) (s:Shared) (σ:St) (H:Hp) (E:B!),I!->(∀b∈fp,tQ X pins H b)->tn i s.heap->J.go i H->
  wpAny (model P w) X.A (pyNext (.ref it)) (λr s1=>∃u,r=some u/\
   wpAny (model P w) X.A (letOwnedTupleGo tg (.ref it) u) (λ_ s2=>∃x H',Inv X pins σ H' s2/\RelV x u/\J.Oi i H x H'/\tn (i+1) s2.heap/\∀b∈fp,H' b=none) E s1) E s
 done:∀(X:Cx),X.prog=P->X.w=w->X.K=K->X.calm=true->∀(i:Nat) (pins:L!) (s:Shared) (σ:St) (H:Hp) (E:B!),I!->(∀b∈fp,tQ X pins H b)->tn i s.heap->J.stop i H->
  wpAny (model P w) X.A (pyNext (.ref it)) (λr s1=>r=none/\Inv X pins σ H s1) E s
 self:∀(A:Around) (i:Nat) (s:Shared) (Q:B!) (E:B!),tn i s.heap->Q (.ref it) s->wpAny (model P w) A (pyIter (.ref it)) Q E s
A! TI:=St->Hp->(It->Hp->Prop)->Prop
D! PIE(X:Cx)(pins:L!)(σ:St)(tg:Expr)(R:It->Hp->Prop)(itv:Value)(s2:Shared):Prop:=
 ∃(it:Addr) (fp:List Addr) (tn:Nat->Heap->Prop) (J:It) (H':Hp),itv=.ref it/\Inv X pins σ H' s2/\Turn X.prog X.w X.K tg J fp it tn/\tn 0 s2.heap/\(∀b∈fp,tQ X pins H' b)/\R J H'
D! PI(X:Cx)(tg iter:Expr)(wi:TI):Prop:=
 ∀(pins:L!) (s:Shared) (σ:St) (H:Hp) (R:It->Hp->Prop),I!->wi σ H R->
  wpAny M! X.A (eval iter X.env) (λv s1=>wpAny M! X.A (pyIter v) (PIE X pins σ tg R) X.xe s1) X.xe s
T! Ao{M:Model}{A:Around}{E:B!}{s:Shared}{tg:Expr}{it:Addr}{u:Value}{o:Obj}{n:String}{vs:Array Value}{Q:Unit->Shared->Prop}(ho:s.heap.get? it=some o)(hc:o.cls=.type n)(hd:o.data=.fields vs)
    (hn:["enumerate","zip","dict_itemiterator","dict_reverseitemiterator","odict_iterator","itertools.zip_longest","itertools.pairwise"].contains n=false)(hQ:Q () s):wpAny M A (letOwnedTupleGo tg (.ref it) u) Q E s:=by
 u! letOwnedTupleGo
 c! tg<;>first
  |~wpAny_pure hQ
  |(c! u<;>first
     |~wpAny_pure hQ
     |(r! wpAny_bind (wpAny_load ho ?_)
       rw[hc,hd];show wpAny M A (if(["enumerate","zip","dict_itemiterator","dict_reverseitemiterator","odict_iterator","itertools.zip_longest","itertools.pairwise"].contains n&&vs[0]?==some (rawInt _))=true then _ else _) Q E s;rw[if_neg (by intro h;rw[hn,Bool.false_and]at h;c! h)];~wpAny_pure hQ))
D! O1(K:PySem.W.Frag)(a:Addr):It:=
 \(λi H=>∃xs x,jy K H a xs/\xs[i]?=some x,λi H x H'=>H'=H/\∀xs,jy K H a xs->xs[i]?=some x,λi H=>∃xs,jy K H a xs/\xs.length<=i)
D! O2(K:PySem.W.Frag)(a:Addr):It:=
 \(λi H=>∃xs x,lY K H a xs/\xs[i]?=some x,λi H x H'=>H'=H/\∀xs,lY K H a xs->xs[i]?=some x,λi H=>∃xs,lY K H a xs/\xs.length<=i)
D! Jh(lo:Int)(n:Nat):It:=\(λi _=>i<n,λi H x H'=>H'=H/\x=.int (lo+i),λi _=>n<=i)
T! arF{P:Program}{w:World}{K:PySem.W.Frag}{tg:Expr}(a it:Addr):Turn P w K tg (O1 K a) [it] it (λi h=>h.IsListIter it a i) where
 mem:=by simp
 obj:=λi h st b hb=>by
  h! e:b=it:=by simpa using hb
  subst e;o!⟨o,e,c,d⟩:=st;~\(o,e,λv z=>by rw[d]at z;cases z)
 keep:=λi h h' st k=>st.at λo e=>k it (by simp) o e
 item:=by
  intro X hP hw hK hc i pins s σ H E I hf st hg;subst hP hw hK;o!⟨xs,x,hq,hx⟩:=hg;o!⟨its,rv,p,hz⟩:=I.list hq;o!⟨u,hu,ru⟩:=rv.get hx;o!⟨f0,f1,f2,f3,f4,f5⟩:=hf it (by simp);r! wpAny_pyNext_list_item st p.isList (x:=u) (by simpa using hu) λh' lU sb=>?_;h! I1:Inv X pins σ H {s with heap:=h'}:=I.turned (t':=s.toks) (λb o hb e=>(sb.2 b hb).trans e) f0 f1 f3 f4 f5;o!⟨o,e,c,d⟩:=id lU;~\(u,rfl,Ao (s:={s with heap:=h'}) e c d d? \(x,H,I1,ru,\(rfl,λys hy=>by rw[I.akL hy hq];~hx),lU,λb hb=>(hf b hb).1))
 done:=by
  intro X hP hw hK hc i pins s σ H E I hf st hg;subst hP hw hK;o!⟨xs,hq,hx⟩:=hg;o!⟨its,rv,p,hz⟩:=I.list hq;o!⟨f0,f1,f2,f3,f4,f5⟩:=hf it (by simp);h! hl:=rv.length;~wpAny_pyNext_list_end (I.ok.hd hc) st p.isList g! λh' eb=>\(rfl,I.turned (t':=s.toks) (λb o hb e=>eb b o hb e) f0 f1 f3 f4 f5)
 self:=λ_ _ _ _ _ st h=>wpAny_pyIter_listiter st h
T! arH{P:Program}{w:World}{K:PySem.W.Frag}{tg:Expr}(a it:Addr):Turn P w K tg (O2 K a) [it] it (λi h=>h.IsTupleIter it a i) where
 mem:=by simp
 obj:=λi h st b hb=>by
  h! e:b=it:=by simpa using hb
  subst e;o!⟨o,e,c,d⟩:=st;~\(o,e,λv z=>by rw[d]at z;cases z)
 keep:=λi h h' st k=>st.at λo e=>k it (by simp) o e
 item:=by
  intro X hP hw hK hc i pins s σ H E I hf st hg;subst hP hw hK;o!⟨xs,x,hq,hx⟩:=hg;o!⟨its,rv,p,hz⟩:=I.tuple hq;o!⟨u,hu,ru⟩:=rv.get hx;o!⟨f0,f1,f2,f3,f4,f5⟩:=hf it (by simp);r! wpAny_pyNext_tuple_item st (show s.heap.IsTuple a its.toArray from p) (x:=u) (by simpa using hu) λh' lU sb=>?_;h! I1:Inv X pins σ H {s with heap:=h'}:=I.turned (t':=s.toks) (λb o hb e=>(sb.2 b hb).trans e) f0 f1 f3 f4 f5;o!⟨o,e,c,d⟩:=id lU;~\(u,rfl,Ao (s:={s with heap:=h'}) e c d d? \(x,H,I1,ru,\(rfl,λys hy=>by rw[I.arC hy hq];~hx),lU,λb hb=>(hf b hb).1))
 done:=by
  intro X hP hw hK hc i pins s σ H E I hf st hg;subst hP hw hK;o!⟨xs,hq,hx⟩:=hg;o!⟨its,rv,p,hz⟩:=I.tuple hq;o!⟨f0,f1,f2,f3,f4,f5⟩:=hf it (by simp);h! hl:=rv.length;~wpAny_pyNext_tuple_end (I.ok.hd hc) st (show s.heap.IsTuple a its.toArray from p) g! λh' eb=>\(rfl,I.turned (t':=s.toks) (λb o hb e=>eb b o hb e) f0 f1 f3 f4 f5)
 self:=λ_ _ _ _ _ st h=>wpAny_pyIter_tupleiter st h
T! arG{P:Program}{w:World}{K:PySem.W.Frag}{tg:Expr}(it:Addr)(lo:Int)(n:Nat):Turn P w K tg (Jh lo n) [it] it (λi h=>IsRangeIter h it (lo+(i:Nat)*1) ((n:Int) - (i:Nat)) 1) where
 mem:=by simp
 obj:=λi h st b hb=>by
  h! e:b=it:=by simpa using hb
  subst e;~\(_,st,λv z=>by
   h! z':Data.fields _=Data.cell v:=z;cases z')
 keep:=λi h h' st k=>k it (by simp) _ st
 item:=by
  intro X hP hw hK hc i pins s σ H E I hf st hg;subst hP hw hK;o!⟨f0,f1,f2,f3,f4,f5⟩:=hf it (by simp);h! W:=Walks.range (prog:=X.prog) (w:=X.w) (I.ok.hd hc) it lo 1 n;r! W.item i s _ _ hg st λv h' tk hv lU kk=>?_;o!⟨t,rfl⟩:=hv;h! I1:Inv X pins σ H {s with heap:=h',toks:=tk}:=I.turned (λb o hb e=>kk b o (by simpa using hb) e) f0 f1 f3 f4 f5;r!\(_,rfl,Ao (s:={s with heap:=h',toks:=tk}) (n:="range_iterator") lU rfl rfl d? \(.int (lo+i),H,I1,\(t,?_),\(rfl,rfl),lU,λb hb=>(hf b hb).1));rw[Int.mul_one]
 done:=by
  intro X hP hw hK hc i pins s σ H E I hf st hg;subst hP hw hK;o!⟨f0,f1,f2,f3,f4,f5⟩:=hf it (by simp);~wpAny_pyNext_range_end (I.ok.hd hc) st (by h!:n<=i:=hg;om) λh' eb=>\(rfl,I.turned (t':=s.toks) (λb o hb e=>eb b o hb e) f0 f1 f3 f4 f5)
 self:=λ_ _ _ _ _ st h=>wpAny_pyIter_rangeiter st h
end L2
namespace L2
open PySem PySem.Spec PyProof.Rows
section
variable{X:Cx}{tg:Expr}
D! akc(K:PySem.W.Frag)(tl:TE):TI:=λσ H R=>tl σ H λx H1=>∃a,x=.ref a/\(∃xs,jy K H1 a xs)/\R (O1 K a) H1
D! akf(K:PySem.W.Frag)(tl:TE):TI:=λσ H R=>tl σ H λx H1=>∃a,x=.ref a/\(∃xs,lY K H1 a xs)/\R (O2 K a) H1
T! an9{l:Expr}{tl:TE}(hl:PE X l tl):PI X tg l (akc X.K tl):=by
 intro pins s σ H R I h;r! bM (hl pins s σ H _ I h) λv s1 \(x,H1,I1,r1,q1)=>?_;o!⟨a,e,⟨xs,hq⟩,q⟩:=q1;subst e;c! r1;o!⟨its,rv,p,hz⟩:=I1.list hq;r! wpAny_pyIter_list p.isList ?_;r!\(s1.heap.objs.size,[s1.heap.objs.size],_,_,H1,rfl,I1.kept (t':=s1.toks) λb o e=>Heap.get?_push_of_some _ e,arF a _,\(_,Heap.get?_push_size _ rfl,rfl,rfl),λb hb=>?_,q);h! e:b=s1.heap.objs.size:=by simpa using hb
 subst e;~I1.Ep n! (I1.hok.fresh n!)
T! aoc{l:Expr}{tl:TE}(hl:PE X l tl):PI X tg l (akf X.K tl):=by
 intro pins s σ H R I h;r! bM (hl pins s σ H _ I h) λv s1 \(x,H1,I1,r1,q1)=>?_;o!⟨a,e,⟨xs,hq⟩,q⟩:=q1;subst e;c! r1;o!⟨its,rv,p,hz⟩:=I1.tuple hq;r! wpAny_pyIter_tuple (show s1.heap.IsTuple a its.toArray from p) ?_;r!\(s1.heap.objs.size,[s1.heap.objs.size],_,_,H1,rfl,I1.kept (t':=s1.toks) λb o e=>Heap.get?_push_of_some _ e,arH a _,\(_,Heap.get?_push_size _ rfl,rfl,rfl),λb hb=>?_,q);h! e:b=s1.heap.objs.size:=by simpa using hb
 subst e;~I1.Ep n! (I1.hok.fresh n!)
T! apa{pins:L!}{σ:St}{H:Hp}{s:Shared}{R:It->Hp->Prop}{E:B!}{lo hi:Int}{t u v:Tok}{tk:Nat}(I:I!)(h1: -(2^62)<=lo)(h2:lo<2^62)(h3: -(2^62)<=hi)(h4:hi<2^62)
    (q:R (Jh lo (hi - lo).toNat) H):wpAny M! X.A (pyIter (.ref s.heap.objs.size)) (PIE X pins σ tg R) E {s with heap:=s.heap.push {cls:=.type "range",data:=.fields #[.int lo t,.int hi u,.int 1 v]},toks:=tk}:=by
 r! wpAny_pyIter_range (IsRange.new ..) (small_one h1 h2 h3 h4) ?_;h! I1:Inv X pins σ H {s with heap:=s.heap.push {cls:=.type "range",data:=.fields #[.int lo t,.int hi u,.int 1 v]},toks:=tk}:=I.kept λb o e=>Heap.get?_push_of_some _ e
 r!\((s.heap.push {cls:=.type "range",data:=.fields #[.int lo t,.int hi u,.int 1 v]}).objs.size,[(s.heap.push {cls:=.type "range",data:=.fields #[.int lo t,.int hi u,.int 1 v]}).objs.size],_,_,H,rfl,
  I1.kept (t':=tk) λb o e=>Heap.get?_push_of_some _ e,arG _ lo (hi - lo).toNat,?_,λb hb=>?_,q)
 ·h! e1:lo+((0:Nat):Int)*1=lo:=by simp
  h! e2:(((hi - lo).toNat:Nat):Int) - ((0:Nat):Int)=Builtin.Range.rangeSize lo hi 1:=by rw[rangeSize_one];split<;>om
  show IsRangeIter _ _ (lo+((0:Nat):Int)*1) ((((hi - lo).toNat:Nat):Int) - ((0:Nat):Int)) 1;rw[e1,e2];~Heap.get?_push_size _ rfl
 ·h! e:b=(s.heap.push {cls:=.type "range",data:=.fields #[.int lo t,.int hi u,.int 1 v]}).objs.size:=by simpa using hb
  subst e;~I1.Ep n! (I1.hok.fresh n!)
D! akd(ta:TA):TI:=λσ H R=>ta σ H λvs H1=>∃j:Int,vs=[.int j]/\ -(2^62)<=j/\j<2^62/\R (Jh 0 j.toNat) H1
T! aoa{a:Expr}{ta:TA}{p pos:Pos}(hg:Gl X "range")(hm:X.mg "range"=none)(ha:PA X [a] ta)(hs:starEach [a] X.env=[(false,eval a X.env)]:=by rfl):PI X tg (.Call (.Name "range" p) [a] [] pos) (akd ta):=by
 intro pins s σ H R I h;r! Call_ (Lw I hg hm boot_range (PyProof.Rows.callWith_type1 (bM (ha pos pins s σ H _ I h) λus s1 \(vs,H1,I1,r1,q1)=>?_) hs rfl));o!⟨j,e,q1,q2,q⟩:=q1;subst e;cases r1 with
 |cons r rr=>
  c! rr;o!⟨t,rfl⟩:=r;~call_range_1 (apa I1 o? o? q1 q2 (by simpa using q))
D! aqN(wi:TI)(g:TG)(tb:TS):TS:=λD σ H=>wi σ H λJ H1=>∃W:Nat->Nat->St->Hp->Prop,(∃m,W 0 m σ H1)/\∀i m σ H,W i m σ H->
 (J.stop i H/\D.nx σ H)\/(J.go i H/\∃N:St->Hp->Prop,(∀σ' H',N σ' H'->∃m',m'<m/\W (i+1) m' σ' H')/\∀x H',J.Oi i H x H'->g x σ H' λnj H2=>tb {D with nx:=N,ct:=N,bk:=D.nx} nj H2)
D! G9(fp:List Addr)(h:Heap):L!:=fp.filterMap λb=>(h.get? b).map λo=>(b,o)
T! LR{fp:List Addr}{h:Heap}{b:Addr}{o:Obj}(hb:b∈fp)(e:h.get? b=some o):(b,o)∈G9 fp h:=List.mem_filterMap.mpr \(b,hb,by rw[e];rfl)
T! ame{fp:List Addr}{h:Heap}{p:Addr×Obj}(hp:p∈G9 fp h):p.1∈fp/\h.get? p.1=some p.2:=by
 o!⟨b,hb,e⟩:=List.mem_filterMap.mp hp;cases q:h.get? b with
 |none=>rw[q]at e;c! e
 |some o=>
  rw[q]at e;h! e':(b,o)=p:=Option.some.inj e;subst e';~\(hb,q)
T! Inv.pinned{pins:L!}{σ:St}{H:Hp}{s:Shared}{fp:List Addr}(I:I!)(hf:∀b∈fp,tQ X pins H b)(ho:∀b∈fp,∃o,s.heap.get? b=some o/\∀v,o.data≠.cell v):Inv X (pins++G9 fp s.heap) σ H s:=
 I.adh λp hp=>(List.mem_append.mp hp).elim (λz=>I.pin p (List.mem_append_right _ z)) λz=>by
  o!⟨hb,e⟩:=ame z;o!⟨f0,f1,f2,_⟩:=hf p.1 hb;o!⟨o,e',d⟩:=ho p.1 hb;rw[e]at e';c! e';~\(e,f0,f1,f2,d)
T! Inv.Od{pins pl:L!}{σ:St}{H:Hp}{s:Shared}(I:Inv X (pins++pl) σ H s):I!:=I.adh λp hp=>I.pin p (List.mem_append_right _ (List.mem_append_left _ hp))
T! adl{iter:Expr}{body:List Stmt}{wi:TI}{g:TG}{tb:TS}{pos:Pos}(hp:PassesOwn M! X.A X.env X.xe)(hc:X.calm=true)(hi:PI X tg iter wi)(hg:PG X tg g)(hb:lJ X body tb)
    (hs:i!:=by intro _;rfl):PS X (.For tg iter body [] pos) (aqN wi g tb):=by
 intro pins s σ H D I h;r! wpAny_For (bM (hi pins s σ H _ I h) λv s1 h1=>bM h1 λitv s2 h2=>?_) hs;o!⟨it,fp,tn,J,H2,e,I2,T,st2,f2,W,⟨m0,w0⟩,turn⟩:=h2;subst e
 h! stat:∀{H':Hp},(∀b∈fp,H' b=none)->∀b∈fp,tQ X pins H' b:=λhn b hb=>\(hn b hb,(f2 b hb).2);r! codeAny_forLoop_any (λn s'=>∃i σ' H',Inv X pins σ' H' s'/\tn i s'.heap/\(∀b∈fp,H' b=none)/\W i n σ' H') ?_ m0 \(0,σ,H2,I2,st2,λb hb=>(f2 b hb).1,w0)
 rintro n s3 ⟨i,lC,H3,I3,yQ,fr3,w3⟩
 rcases turn i n lC H3 w3 with⟨stop,qn⟩|⟨go,N,hN,step⟩
 ·r! wpAny_passesOwn hp (bM (T.done X rfl rfl rfl hc i pins s3 lC H3 X.xe I3 (stat fr3) yQ stop) λr s4 \(hr,I4)=>?_)
  subst hr;~wpAny_execs_nil \(lC,H3,I4,qn)
 ·r! wpAny_passesOwn hp (bM (T.item X rfl rfl rfl hc i pins s3 lC H3 X.xe I3 (stat fr3) yQ go) λr s4 \(u,hr,h4)=>?_)
  subst hr;r! wpAny_passesOwn hp (bM h4 λ_ s5 \(x,H5,I5,r5,y5,HJ,Ra)=>?_);h! I5':=I5.pinned (stat Ra) (T.obj _ _ HJ);r! wpAny_passesOwn hp (bM (hg _ s5 lC H5 x u _ I5' r5 (step x H5 y5)) λ_ s6 \(σ6,H6,I6,q6)=>?_);r! wpAny_passesOwn hp (bM (hb _ s6 σ6 H6 _ I6 q6) λf s7 q7=>?_);h! again:∀{rA:St} {H7:Hp},Inv X (pins++G9 fp s5.heap) rA H7 s7->N rA H7->∃m,m<n/\∃i σ' H',Inv X pins σ' H' s7/\tn i s7.heap/\(∀b∈fp,H' b=none)/\W i m σ' H':=λ{rA H7} I7 n7=>by
   o!⟨m',hm,w7⟩:=hN rA H7 n7;r!\(m',hm,i+1,rA,H7,I7.Od,T.keep _ _ _ HJ λb hb o e=>(I7.pin (b,o) (List.mem_append_right _ (List.mem_append_right _ (LR hb e)))).1,λb hb=>?_,w7);o!⟨o,e,d⟩:=T.obj _ _ HJ b hb;~(I7.pin (b,o) (List.mem_append_right _ (List.mem_append_right _ (LR hb e)))).2.1
  cases f with
  |next=>o!⟨rA,H7,I7,n7⟩:=q7;~again I7 n7
  |cont=>o!⟨rA,H7,I7,n7⟩:=q7;~again I7 n7
  |brk=>o!⟨rA,H7,I7,q7⟩:=q7;~\(rA,H7,I7.Od,q7)
  |ret v=>o!⟨x7,rA,H7,I7,r7,q7⟩:=q7;~\(x7,rA,H7,I7.Od,r7,q7)
end
end L2
namespace L2
open PySem PySem.Spec PyProof.Rows
A! R2:=V->V->Hp->VK->Prop
D! gA(X:Cx)(f:Value->Value->Sem Value)(r:R2):Prop:=
 ∀(pins:L!) (s:Shared) (σ:St) (H:Hp) (x y:V) (v u:Value) (Q:VK),I!->RelV x v->RelV y u->r x y H Q->
  wpAny M! X.A (f v u) (EP X pins σ Q) X.xe s
D! Jk(X:Cx)(f:Value->Sem Value)(r:V->Hp->VK->Prop):Prop:=
 ∀(pins:L!) (s:Shared) (σ:St) (H:Hp) (x:V) (v:Value) (Q:VK),I!->RelV x v->r x H Q->
  wpAny M! X.A (f v) (EP X pins σ Q) X.xe s
D! jF(X:Cx)(f:Value)(r:List V->Hp->VK->Prop):Prop:=
 ∀(pins:L!) (s:Shared) (σ:St) (H:Hp) (xs:List V) (us:List Value) (Q:VK),I!->Vals xs us->r xs H Q->
  wpAny M! X.A (call f us) (EP X pins σ Q) X.xe s
D! ahs(X:Cx)(r:V->Hp->(Bool->Hp->Prop)->Prop):Prop:=
 ∀(pins:L!) (s:Shared) (σ:St) (H:Hp) (x:V) (v:Value) (Q:Bool->Hp->Prop),I!->RelV x v->r x H Q->
  wpAny M! X.A (truthy v) (TP X pins σ Q) X.xe s
D! NK(r:R2)(ta tb:TE):TE:=λσ H Q=>ta σ H λx H1=>tb σ H1 λy H2=>r x y H2 Q
D! tUn(r:V->Hp->VK->Prop)(ta:TE):TE:=λσ H Q=>ta σ H λx H1=>r x H1 Q
D! rI(C:Int->Int->Prop)(g:Int->Int->V):R2:=λx y H Q=>∃i j,x=.int i/\y=.int j/\C i j/\Q (g i j) H
D! wI(g:Int->Int->V):R2:=λx y H Q=>∃i j,x=.int i/\y=.int j/\Q (g i j) H
D! rU(g:Int->V):V->Hp->VK->Prop:=λx H Q=>∃i,x=.int i/\Q (g i) H
section
variable{X:Cx}{a b c:Expr}{ta tb tc:TE}{pos:Pos}
T! Qg(ha:PE X a ta)(hb:PE X b tb){pins:L!}{s:Shared}{σ:St}{H:Hp}{R:V->V->Hp->Prop}(I:I!)
    (h:ta σ H λx H1=>tb σ H1 λy H2=>R x y H2){Q:B!}{f:Value->Value->Sem Value}
    (hf:∀v u s2 x y H2,Inv X pins σ H2 s2->RelV x v->RelV y u->R x y H2->wpAny M! X.A (f v u) Q X.xe s2):
    wpAny M! X.A (eval a X.env) (λv s₁=>wpAny M! X.A (eval b X.env) (λu s₂=>wpAny M! X.A (f v u) Q X.xe s₂) X.xe s₁) X.xe s:=by
 r! bM (ha pins s σ H _ I h) λv s1 \(x,H1,I1,r1,q1)=>?_;r! bM (hb pins s1 σ H1 _ I1 q1) λu s2 \(y,H2,I2,r2,q2)=>?_;~hf v u s2 x y H2 I2 r1 r2 q2
T! ac9{op:Operator}{r:R2}(ho:gA X (binaryOp op) r)(ha:PE X a ta)(hb:PE X b tb):PE X (.BinOp a op b pos) (NK r ta tb):=by
 intro pins s σ H Q I h;~wpAny_BinOp (Qg ha hb I h λv u s2 x y H2 I2 rx ry q=>ho pins s2 σ H2 x y v u Q I2 rx ry q)
T! an6{op:UnaryOp}{r:V->Hp->VK->Prop}(ho:Jk X (unaryOp op) r)(ha:PE X a ta):PE X (.UnaryOp op a pos) (tUn r ta):=by
 intro pins s σ H Q I h;~UnaryOp_ (bM (ha pins s σ H _ I h) λv s1 \(x,H1,I1,r1,q1)=>ho pins s1 σ H1 x v Q I1 r1 q1)
T! G6{f:Value->Value->Sem Value}{C:Int->Int->Prop}{g:Int->Int->Int}
    (rule:∀(i j:Int) (t u:Tok) (s:Shared) (Q:B!) (E:B!),C i j->Q (.int (g i j) s.toks) {s with toks:=s.toks+1}->wpAny M! X.A (f (.int i t) (.int j u)) Q E s):
    gA X f (rI C λi j=>.int (g i j)):=by
 intro pins s σ H x y v u Q I rx ry h;o!⟨i,j,rfl,rfl,hc,q⟩:=h;o!⟨t,rfl⟩:=rx;o!⟨t',rfl⟩:=ry;~rule i j t t' s _ _ hc \(.int (g i j),H,I.tok _,\(_,rfl),q)
T! acU{f:Value->Value->Sem Value}{g:Int->Int->Int}
    (rule:∀(i j:Int) (t u:Tok) (s:Shared) (Q:B!) (E:B!),Q (.int (g i j) s.toks) {s with toks:=s.toks+1}->wpAny M! X.A (f (.int i t) (.int j u)) Q E s):
    gA X f (wI λi j=>.int (g i j)):=by
 intro pins s σ H x y v u Q I rx ry h;o!⟨i,j,rfl,rfl,q⟩:=h;o!⟨t,rfl⟩:=rx;o!⟨t',rfl⟩:=ry;~rule i j t t' s _ _ \(.int (g i j),H,I.tok _,\(_,rfl),q)
T! Tn{f:Value->Value->Sem Value}{g:Int->Int->Bool}
    (rule:∀(i j:Int) (t u:Tok) (s:Shared) (Q:B!) (E:B!),Q (.bool (g i j)) s->wpAny M! X.A (f (.int i t) (.int j u)) Q E s):
    gA X f (wI λi j=>.bl (g i j)):=by
 intro pins s σ H x y v u Q I rx ry h;o!⟨i,j,rfl,rfl,q⟩:=h;o!⟨t,rfl⟩:=rx;o!⟨t',rfl⟩:=ry;~rule i j t t' s _ _ \(.bl (g i j),H,I,rfl,q)
D! agY(i j:Int):Prop:=0<=j/\j<=1000000/\i.natAbs<2^64
D! Ow(i j:Int):Prop:=(-(2^64)<i/\i<2^64)\/(-(2^64)<j/\j<2^64)
T! Ow.ok{i j:Int}(h:Ow i j):IntMulOk i j:=by
 rcases h with⟨h1,h2⟩|⟨h1,h2⟩;·~.of_left (intBits_le_64 h1 h2)
 ·~.of_right (intBits_le_64 h1 h2)
T! ang:gA X (binaryOp .Add) (wI λi j=>.int (i+j)):=acU λ_ _ _ _ _ _ _ q=>add_int q
T! anA:gA X (binaryOp .Sub) (wI λi j=>.int (i - j)):=acU λ_ _ _ _ _ _ _ q=>sub_int q
T! ant:gA X (binaryOp .Mult) (rI Ow λi j=>.int (i*j)):=G6 λ_ _ _ _ _ _ _ hc q=>mul_int q hc.ok
T! anr:gA X (binaryOp .Mod) (rI (λ_ j=>j≠0) λi j=>.int (i.fmod j)):=G6 λ_ _ _ _ _ _ _ hc q=>mod_int' hc q
T! anx:gA X (binaryOp .Pow) (rI agY λi j=>.int (i^j.toNat)):=G6 λ_ _ _ _ _ _ _ hc q=>pow_int_small hc.1 hc.2.1 hc.2.2 q
T! unI{f:Value->Sem Value}{g:Int->Int}
    (rule:∀(i:Int) (t:Tok) (s:Shared) (Q:B!) (E:B!),Q (.int (g i) s.toks) {s with toks:=s.toks+1}->wpAny M! X.A (f (.int i t)) Q E s):
    Jk X f (rU λi=>.int (g i)):=by
 intro pins s σ H x v Q I rx h;o!⟨i,rfl,q⟩:=h;o!⟨t,rfl⟩:=rx;~rule i t s _ _ \(.int (g i),H,I.tok _,\(_,rfl),q)
T! arK:Jk X (unaryOp .USub) (rU λi=>.int (-i)):=unI λ_ _ _ _ _ q=>neg_int q
end
D! Wj:V->V->Bool
 |.non,.non=>true|.non,.int _=>true|.int _,.non=>true|.non,.bl _=>true|.bl _,.non=>true|.non,.str _=>true|.str _,.non=>true
 |.int _,.int _=>true|.bl _,.bl _=>true|.str _,.str _=>true|.nG _,.nG _=>true
 |.int _,.str _=>true|.str _,.int _=>true|.bl _,.str _=>true|.str _,.bl _=>true
 |_,_=>false
D! rEq:R2:=λx y H Q=>Wj x y=true/\Q (.bl (decide (x=y))) H
D! rNe:R2:=λx y H Q=>Wj x y=true/\Q (.bl (!decide (x=y))) H
T! aaS{i j:Int}:decide (V.int i=V.int j)=(i==j):=by
 rw[Bool.eq_iff_iff];simp
T! aaQ{i j:Bool}:decide (V.bl i=V.bl j)=(i==j):=by
 rw[Bool.eq_iff_iff];simp
T! aaT{i j:Str}:decide (V.str i=V.str j)=(i==j):=by
 rw[Bool.eq_iff_iff];simp
T! aaR{i j:Array UInt8}:decide (V.nG i=V.nG j)=(i.toList==j.toList):=by
 rw[Bool.eq_iff_iff];c! i;c! j;simp
section
variable{X:Cx}{a b c:Expr}{ta tb tc:TE}{pos:Pos}
T! fX{pins:L!}{σ:St}{H:Hp}{s:Shared}{Q:VK}{k k':Bool}(I:I!)(q:Q (.bl k) H)(e:k=k'):EP X pins σ Q (.bool k') s:=by
 subst e;~\(.bl k,H,I,rfl,q)
T! anj:gA X (compareOp .Eq) rEq:=by
 intro pins s σ H x y v u Q I rx ry h;o!⟨hs,q⟩:=h;cases x with
 |non=>
  c! rx;cases y with
  |non=>c! ry;~PySem.EqNone.eq_none_none (fX I q (by simp))
  |bl j=>c! ry;~PySem.EqNone.eq_none_bool (fX I q (by simp))
  |int j=>o!⟨t',rfl⟩:=ry;~PySem.EqNone.eq_none_int (fX I q (by simp))
  |str j=>o!⟨t',rfl⟩:=ry;~PySem.EqNone.eq_none_str (fX I q (by simp))
  |_=>~absurd (show false=true from hs) Bool.false_ne_true
 |bl i=>
  c! rx;cases y with
  |non=>c! ry;~PySem.EqNone.eq_bool_none (fX I q (by simp))
  |bl j=>c! ry;~eq_bool (fX I q aaQ)
  |str j=>o!⟨t',rfl⟩:=ry;~PySem.EqMixed.eq_bool_str (fX I q (by simp))
  |_=>~absurd (show false=true from hs) Bool.false_ne_true
 |int i=>
  o!⟨t,rfl⟩:=rx;cases y with
  |non=>c! ry;~PySem.EqNone.eq_int_none (fX I q (by simp))
  |int j=>o!⟨t',rfl⟩:=ry;~eq_int (fX I q aaS)
  |str j=>o!⟨t',rfl⟩:=ry;~PySem.EqMixed.eq_int_str (fX I q (by simp))
  |_=>~absurd (show false=true from hs) Bool.false_ne_true
 |str i=>
  o!⟨t,rfl⟩:=rx;cases y with
  |non=>c! ry;~PySem.EqNone.eq_str_none (fX I q (by simp))
  |bl j=>c! ry;~PySem.EqMixed.eq_str_bool (fX I q (by simp))
  |int j=>o!⟨t',rfl⟩:=ry;~PySem.EqMixed.eq_str_int (fX I q (by simp))
  |str j=>o!⟨t',rfl⟩:=ry;~eq_str (fX I q aaT)
  |_=>~absurd (show false=true from hs) Bool.false_ne_true
 |nG i=>
  o!⟨t,rfl⟩:=rx;cases y with
  |nG j=>o!⟨t',rfl⟩:=ry;~PySem.W.eq_bytes (fX I q aaR)
  |_=>~absurd (show false=true from hs) Bool.false_ne_true
 |_=>c! y<;>~absurd (show false=true from hs) Bool.false_ne_true
T! anw:gA X (compareOp .NotEq) rNe:=by
 intro pins s σ H x y v u Q I rx ry h;o!⟨hs,q⟩:=h;cases x with
 |non=>
  c! rx;cases y with
  |non=>c! ry;~PySem.EqNone.ne_none_none (fX I q (by simp))
  |bl j=>c! ry;~PySem.EqNone.ne_none_bool (fX I q (by simp))
  |int j=>o!⟨t',rfl⟩:=ry;~PySem.EqNone.ne_none_int (fX I q (by simp))
  |str j=>o!⟨t',rfl⟩:=ry;~PySem.EqNone.ne_none_str (fX I q (by simp))
  |_=>~absurd (show false=true from hs) Bool.false_ne_true
 |bl i=>
  c! rx;cases y with
  |non=>c! ry;~PySem.EqNone.ne_bool_none (fX I q (by simp))
  |bl j=>c! ry;~ne_bool (fX I q (congrArg not aaQ))
  |str j=>o!⟨t',rfl⟩:=ry;~PySem.EqMixed.ne_bool_str (fX I q (by simp))
  |_=>~absurd (show false=true from hs) Bool.false_ne_true
 |int i=>
  o!⟨t,rfl⟩:=rx;cases y with
  |non=>c! ry;~PySem.EqNone.ne_int_none (fX I q (by simp))
  |int j=>o!⟨t',rfl⟩:=ry;~ne_int (fX I q (congrArg not aaS))
  |str j=>o!⟨t',rfl⟩:=ry;~PySem.EqMixed.ne_int_str (fX I q (by simp))
  |_=>~absurd (show false=true from hs) Bool.false_ne_true
 |str i=>
  o!⟨t,rfl⟩:=rx;cases y with
  |non=>c! ry;~PySem.EqNone.ne_str_none (fX I q (by simp))
  |bl j=>c! ry;~PySem.EqMixed.ne_str_bool (fX I q (by simp))
  |int j=>o!⟨t',rfl⟩:=ry;~PySem.EqMixed.ne_str_int (fX I q (by simp))
  |str j=>o!⟨t',rfl⟩:=ry;~ne_str (fX I q (congrArg not aaT))
  |_=>~absurd (show false=true from hs) Bool.false_ne_true
 |nG i=>
  o!⟨t,rfl⟩:=rx;cases y with
  |nG j=>o!⟨t',rfl⟩:=ry;~PySem.W.ne_bytes (fX I q (congrArg not aaR))
  |_=>~absurd (show false=true from hs) Bool.false_ne_true
 |_=>c! y<;>~absurd (show false=true from hs) Bool.false_ne_true
T! anq:gA X (compareOp .Lt) (wI λi j=>.bl (decide (i<j))):=Tn λ_ _ _ _ _ _ _ q=>lt_int q
T! ano:gA X (compareOp .Gt) (wI λi j=>.bl (decide (j<i))):=Tn λ_ _ _ _ _ _ _ q=>gt_int q
T! anm:gA X (compareOp .GtE) (wI λi j=>.bl (decide (j<=i))):=Tn λ_ _ _ _ _ _ _ q=>ge_int q
T! anp:gA X (compareOp .In) (λx y H Q=>∃i j,x=.str i/\y=.str j/\Q (.bl (!(Builtin.Str.occurrences j i 0 j.length 1).isEmpty)) H):=by
 intro pins s σ H x y v u Q I rx ry h;o!⟨i,j,rfl,rfl,q⟩:=h;o!⟨t,rfl⟩:=rx;o!⟨t',rfl⟩:=ry;~in_str (fX I q rfl)
T! Tf(b:Expr){op:CmpOp}(h:op≠.In:=by decide)(h2:op≠.NotIn:=by decide):behindInMarks op b=false:=by
 h! e1:(op==CmpOp.In)=false:=by c! op<;>first|rfl|~absurd rfl h
 h! e2:(op==CmpOp.NotIn)=false:=by c! op<;>first|rfl|~absurd rfl h2
 c! b<;>simp[behindInMarks,e1,e2]
T! anO{op:CmpOp}{r:R2}(ho:gA X (compareOp op) r)(ha:PE X a ta)(hb:PE X b tb)(hm:behindInMarks op b=false):PE X (.Compare a [op] [b] pos) (NK r ta tb):=by
 intro pins s σ H Q I h;~wpAny_Compare1 (Qg ha hb I h λv u s2 x y H2 I2 rx ry q=>ho pins s2 σ H2 x y v u Q I2 rx ry q) hm
D! aq2(t:TE):TT:=λσ H Q=>t σ H λx H'=>∃k,x=.bl k/\Q k H'
T! adv{op:CmpOp}{r:R2}(ho:gA X (compareOp op) r)(ha:PE X a ta)(hb:PE X b tb)(hm:behindInMarks op b=false):PT X (.Compare a [op] [b] pos) (aq2 (NK r ta tb)):=by
 intro pins s σ H Q I h
 r! wpAny_isTrue_Compare1 (bM (ha pins s σ H _ I h) λv s1 \(x,H1,I1,r1,q1)=>bM (hb pins s1 σ H1 _ I1 q1) λu s2 \(y,H2,I2,r2,q2)=>
  bM (ho pins s2 σ H2 x y v u _ I2 r1 r2 q2) λc s3 \(z,H3,I3,r3,k,e,q3)=>?_) hm
 subst e;c! r3;~wpAny_truthy_bool \(H3,I3,q3)
D! Pn(K:PySem.W.Frag)(x:V)(H:Hp)(k:Bool):Prop:=
 match x with
 |.non=>k=false
 |.bl b=>k=b
 |.int i=>k=(i !=0)
 |.str y=>y.length<=sizeLine/\k=((y.length:Int)!=0)
 |.nG y=>y.size<=sizeLine/\k=((y.size:Int)!=0)
 |.ref p=>(∃xs,jy K H p xs/\k=!xs.isEmpty)\/(∃xs,lY K H p xs/\k=!xs.isEmpty)\/∃kvs,H p=some (.dK kvs)/\k=!kvs.isEmpty
 |_=>False
T! akm{κ:Type}{kvs:List (κ×V)}{vs:List (κ×Value)}(r:KV kvs vs):(!vs.isEmpty)=!kvs.isEmpty:=by
 c! r<;>rfl
T! abT{xs:List V}{its:List Value}(r:Vals xs its):(!its.toArray.isEmpty)=!xs.isEmpty:=by
 c! r<;>simp
T! Bg:(sizeLine:Nat)<2^63:=by rw[sizeLine_eq];decide
T! arB:ahs X (λx H Q=>∃k,Pn X.K x H k/\Q k H):=by
 intro pins s σ H x v Q I rx h;o!⟨k,e,q⟩:=h;h! hl:=Bg;h! hs:sizeLine=16777216:=sizeLine_eq;cases x with
 |non=>
  c! rx;h! e':k=false:=e;subst e';~truthy_none \(H,I,q)
 |bl b=>
  c! rx;h! e':k=b:=e;subst e';~wpAny_truthy_bool \(H,I,q)
 |int i=>
  o!⟨t,rfl⟩:=rx;h! e':k=(i !=0):=e;subst e';~PySem.P.truthy_int \(H,I,q)
 |str y=>
  o!⟨t,rfl⟩:=rx;obtain⟨hy,e'⟩:y.length<=sizeLine/\k=((y.length:Int)!=0):=e;subst e';~PySem.P.truthy_str o? \(H,I.tok _,q)
 |nG y=>
  o!⟨t,rfl⟩:=rx;obtain⟨hy,e'⟩:y.size<=sizeLine/\k=((y.size:Int)!=0):=e;subst e';~PySem.W.truthy_bytes o? \(H,I.tok _,q)
 |ref p=>
  c! rx;h! e':(∃xs,jy X.K H p xs/\k=!xs.isEmpty)\/(∃xs,lY X.K H p xs/\k=!xs.isEmpty)\/∃kvs,H p=some (.dK kvs)/\k=!kvs.isEmpty:=e;rcases e' with⟨xs,hx,e'⟩|⟨xs,hx,e'⟩|⟨kvs,hx,e'⟩
  ·subst e'
   o!⟨its,r,pl,hz⟩:=I.list hx;h! hlen:=r.length;~wpAny_truthy_list pl.isList (by S![List.size_toArray];om) \(H,I.tok _,by rw[abT r];~q)
  ·subst e'
   o!⟨its,r,pl,hz⟩:=I.tuple hx;h! hlen:=r.length;~truthy_tuple pl (by S![List.size_toArray];om) \(H,I.tok _,by rw[abT r];~q)
  ·subst e'
   obtain⟨hz,hS,vs,r,m⟩:kvs.length<=sizeLine/\(p==sysModules)=false/\∃vs,KV kvs vs/\s.heap.DictOf (my X.prog X.w) p vs:=I.hok p _ hx;h! hlen:kvs.length=vs.length:=Paired.length r;~wpAny_truthy_dict hS m o? \(H,I.tok _,by rw[akm r];~q)
 |_=>~(show False from e).elim
T! aoB(ha:PE X a ta)(he:∀whole,isTrue a X.env whole=(do let v<-whole;standAt a.pos;holding [v] (truthy v))):
    PT X a (λσ H Q=>ta σ H λx H'=>∃k,Pn X.K x H' k/\Q k H'):=by
 intro pins s σ H Q I h;~isTrue_plain (bM (ha pins s σ H _ I h) λv s1 \(x,H1,I1,r1,q1)=>arB pins s1 σ H1 x v Q I1 r1 q1) (he _)
T! anh:gA X (binaryOp .Add) (λx y H Q=>∃i j,x=.str i/\y=.str j/\i.length+j.length<=sizeLine/\Q (.str (i++j)) H):=by
 intro pins s σ H x y v u Q I rx ry h;o!⟨i,j,rfl,rfl,hz,q⟩:=h;o!⟨t,rfl⟩:=rx;o!⟨t',rfl⟩:=ry;~add_str (λt' tk=>\(.str (i++j),H,I.tok _,\(_,rfl),q)) hz
T! vals1{x:V}{us:List Value}(r:Vals [x] us):∃u,us=[u]/\RelV x u:=by
 cases r with
 |cons r1 r2=>c! r2;~\(_,rfl,r1)
T! vals2{x y:V}{us:List Value}(r:Vals [x,y] us):∃u w',us=[u,w']/\RelV x u/\RelV y w':=by
 cases r with
 |cons r1 r2=>
  cases r2 with
  |cons r3 r4=>c! r4;~\(_,_,rfl,r1,r3)
T! aia:jF X (.builtin "abs") (λxs H Q=>∃i,xs=[.int i]/\Q (.int (if i<0 then -i else i)) H):=by
 intro pins s σ H xs us Q I r h;o!⟨i,rfl,q⟩:=h;o!⟨u,rfl,t,rfl⟩:=vals1 r;~call_abs_int λu tk=>\(.int (if i<0 then -i else i),H,I.tok _,\(_,rfl),q)
T! aik(hc:X.calm=true):jF X (.builtin "max") (λxs H Q=>∃i j,xs=[.int i,.int j]/\Q (.int (if j>i then j else i)) H):=by
 intro pins s σ H xs us Q I r h;o!⟨i,j,rfl,q⟩:=h;o!⟨u,w',rfl,⟨t,rfl⟩,⟨t',rfl⟩⟩:=vals2 r;r! max_two_ints (I.ok.hd hc) λh' tk k=>\(_,H,I.kept k,?_,q);by_cases hj:j>i;·rw[if_pos hj,if_pos hj];~\(_,rfl)
 ·rw[if_neg hj,if_neg hj];~\(_,rfl)
T! ail:jF X (.type "str") (λxs H Q=>∃i,xs=[.int i]/\i.natAbs.log2<1920/\Q (.str (toString i)) H):=by
 intro pins s σ H xs us Q I r h;o!⟨i,rfl,hz,q⟩:=h;o!⟨u,rfl,t,rfl⟩:=vals1 r;~PySem.P.str_of_int hz \(.str _,H,I.tok _,\(_,rfl),q)
end
end L2
namespace L2
open PySem PySem.Spec PyProof.Rows
structure xB(h:Heap)(x dx C:Addr)(mA:G!):Prop where
 obj:h.get? x=some (PySem.W.instObj C dx)
 ns:h.Ns1 dx mA
 ne:dx≠x
T! akO{h:Heap}{dx:Addr}{mA:G!}(n:h.Ns1 dx mA):∃od,h.get? dx=some od/\∀name,PySem.W.lookIn name od=some (mA name):=by
 o!⟨o,es,ep,ho,hd,hk,_,hm⟩:=n;r!\(o,ho,λname=>?_);h! e:=hm name;u! nsFind findBy at e;rw[<-Array.find?_toList]at e;u! PySem.W.lookIn;rw[hd];dsimp only;split
 ·rename_i y q
  rw[q]at e;~congrArg some e
 ·rename_i q
  rw[q]at e;h! a:es.toList.any (·.refKey)=false:=by
   rw[List.any_eq_false];intro y hy;o!⟨z,t,ajN⟩:=hk y (Array.mem_toList_iff.mp hy);simp[DictEntry.refKey,ajN]
  h! a':¬es.toList.any (·.refKey)=true:=by rw[a];~Bool.false_ne_true
  rw[if_neg a'];~congrArg some e
T! xB.look{h:Heap}{x dx C:Addr}{mA:G!}(I:xB h x dx C mA):∃od,PySem.W.InstAt h x (PySem.W.instObj C dx) C (some od)/\∀name,PySem.W.lookIn name od=some (mA name):=
 let\(od,ho,hl):=akO I.ns
 \(od,\(I.obj,rfl,rfl,ho),hl)
section
variable{prog:Program}{w:World}{A:Around}{E:B!}{s:Shared}{K:PySem.W.Frag}{x dx C f:Addr}{mA:G!}{name:Str}{v:Value}
T! get_map{expr:Bool}{Q:B!}(X:K.In s.heap)(I:xB s.heap x dx C mA)(hg:PySem.W.plainGet K C name=true)(hh:PySem.W.hasDictIn K C=true)
    (ha:PySem.W.findIn K (.ref C) name=some none)(hv:mA name=some v)(hv':PySem.W.handedIn v=true)(h:Q v {s with toks:=s.toks+1}):
    wpAny N! A (getAttr (.ref x) name expr) Q E s:=by
 o!⟨od,J,hl⟩:=I.look;~PySem.W.get_value X J (PySem.W.plainGet_of hg).1 (PySem.W.findObj_own hh ha rfl (by rw[hl,hv])) hv' h
T! ajs{pl:Sem Bool}{Q:Value×List Value->Shared->Prop}(X:K.In s.heap)(I:xB s.heap x dx C mA)(hg:PySem.W.plainGet K C name=true)
    (hf:PySem.W.findIn K (.ref C) name=some (some (.ref f)))(ht:PySem.W.isFn K (.ref f)=true)(hv:mA name=none)(h:Q (.ref f,[.ref x]) s):
    wpAny N! A (getMethod (.ref x) name pl) Q E s:=by
 o!⟨od,J,hl⟩:=I.look;~PySem.W.method_fn X J (PySem.W.plainGet_of hg).1 (PySem.W.plainGet_of hg).2 hf (beq_iff_eq.mp ht) (by show(PySem.W.lookIn name od).map (·.isSome)=some false;rw[hl,hv];rfl) h
T! aqa{ns:List Str}{Q:Unit->Shared->Prop}(X:K.In s.heap)(I:xB s.heap x dx C mA)
    (hs:PySem.W.findIn K (.ref C) "__setattr__"=some (some (.builtin "object.__setattr__")))(hp:PySem.W.plainOver K C=true)(ht:PySem.W.takerIn K C name=some none)(hh:PySem.W.hasDictIn K C=true)
    (hw:PySem.Within mA ns)(hsz:ns.length<=sizeLine)
    (h:∀h',xB h' x dx C (λy=>if y=name then some v else mA y)->Heap.SameBut dx s.heap h'->Q () {s with heap:=h',toks:=s.toks+2}):
    wpAny N! A (setAttr (.ref x) name v) Q E s:=by
 o!⟨od,J,hl⟩:=I.look;r! PySem.W.set_plain X J hs (PySem.W.osa_open (s:={s with toks:=s.toks+1}) (r:=none) X J hp ht λb=>?_);o!⟨cd,hc,Gg⟩:=PySem.W.any_some hh;h! hx:s.heap.get? x=some \(.ref C,some dx,.plain,#[]):=I.obj;r! wpAny_bind (wpAny_pure (wpAny_bind (wpAny_bind (wpAny_loadPart hx (wpAny_bind (PySem.W.Looks.here (s:={s with toks:=s.toks+1}) (PySem.W.looks_clsIn X hc) ?_))))));rw[Gg];r! wpAny_pure (a:=some dx) (wpAny_bind (wpAny_pure (wpAny_bind ?_)));r! wpAny_nsSet1 (s:={s with toks:=s.toks+1}) I.ns λh' qF hs2=>?_;o!⟨oD,esD,epD,hoD,hdD,hcD⟩:=qF.count (PySem.Within.cons name v hw);r! wpAny_bind (wpAny_lookBehind hoD (by rw[hdD];~pastItsLine_dict (Nat.le_trans hcD (by rw[List.length_cons];om))) ?_);~wpAny_pure (h _ \((hs2.2 _ (Ne.symm I.ne)).trans I.obj,qF,I.ne) hs2)
T! alx{R:Result->Shared->Prop}{vs:List Value}{kw:List (Str×Value)}(X:K.In s.heap)(hm:PySem.W.makesIn K C=true)
    (hi:PySem.W.findIn K (.ref C) "__init__"=some (some (.ref f)))(hf:PySem.W.typeIn K (.ref f)=some (.type "function"))
    (h:codeAny N! (A.under (.builtin "type.__call__" \(.ref C::vs,kw))) (.call (.ref f) \(.ref (s.heap.objs.size+1)::vs,kw)) (PySem.W.InitBack (s.heap.objs.size+1) R)
      {s with heap:=(s.heap.push PySem.W.emptyDict).push (PySem.W.instObj C s.heap.objs.size)}):
    codeAny N! A (.call (.ref C) \(vs,kw)) R s:=by
 o!⟨hh,g,d,t,os⟩:=s;~PySem.W.make_core (PySem.W.makes_of X hm) (PySem.W.looks_findIn X hi) (λself=>PySem.W.bind_fn X self hf) (.inl rfl) h
end
D! gZ(f:Str)(v:V):List (Str×V)->List (Str×V)
 |[]=>[(f,v)]
 |(g,x)::r=>if g=f then(g,v)::r else(g,x)::gZ f v r
T! acj(f g:Str)(v:V):∀fs:List (Str×V),(gZ f v fs).lookup g=if g=f then some v else fs.lookup g
 |[]=>by
  show List.lookup g [(f,v)]=_;by_cases h:g=f
  ·h! hb:(g==f)=true:=beq_iff_eq.mpr h
   S![List.lookup,hb,if_pos h]
  ·h! hb:(g==f)=false:=beq_eq_false_iff_ne.mpr h
   S![List.lookup,hb,if_neg h]
 |(k,x)::r=>by
  h! ih:=acj f g v r;rw[show gZ f v ((k,x)::r)=(if k=f then(k,v)::r else(k,x)::gZ f v r)from rfl];by_cases hk:k=f
  ·rw[if_pos hk]
   by_cases h:g=k
   ·h! hb:(g==k)=true:=beq_iff_eq.mpr h
    S![List.lookup,hb,if_pos (h.trans hk)]
   ·h! hb:(g==k)=false:=beq_eq_false_iff_ne.mpr h
    S![List.lookup,hb,if_neg (λe:g=f=>h (e.trans hk.symm))]
  ·rw[if_neg hk]
   by_cases h:g=k
   ·h! hb:(g==k)=true:=beq_iff_eq.mpr h
    S![List.lookup,hb,if_neg (λe:g=f=>hk (h.symm.trans e))]
   ·h! hb:(g==k)=false:=beq_eq_false_iff_ne.mpr h
    S![List.lookup,hb];~ih
T! Sq(f:Str)(v:V):∀fs:List (Str×V),f∈(gZ f v fs).map (·.1)/\∀g,g∈fs.map (·.1)->g∈(gZ f v fs).map (·.1)
 |[]=>\(by simp[gZ],λg h=>by simp at h)
 |(k,x)::r=>by
  o!⟨i1,i2⟩:=Sq f v r;rw[show gZ f v ((k,x)::r)=(if k=f then(k,v)::r else(k,x)::gZ f v r)from rfl];by_cases hk:k=f
  ·rw[if_pos hk]
   subst hk;~\(by simp,λg h=>by simpa using h)
  ·rw[if_neg hk]
   r!\(?_,λg h=>?_)
   ·rw[List.map_cons]
    ~List.mem_cons_of_mem _ i1
   ·rw[List.map_cons]at h⊢
    rcases List.mem_cons.mp h with e|e;·~List.mem_cons.mpr (.inl e)
    ·~List.mem_cons_of_mem _ (i2 g e)
T! acg(f:Str)(v:V):∀fs:List (Str×V),(gZ f v fs).length<=fs.length+1
 |[]=>by simp[gZ]
 |(k,x)::r=>by
  h! ih:=acg f v r;rw[show gZ f v ((k,x)::r)=(if k=f then(k,v)::r else(k,x)::gZ f v r)from rfl];by_cases hk:k=f;·rw[if_pos hk,List.length_cons,List.length_cons];om
  ·rw[if_neg hk,List.length_cons,List.length_cons];om
T! jY.some_of{v:V}{o:Option Value}(r:jY (some v) o):∃u,o=some u/\RelV v u:=by
 cases o with
 |none=>~(show False from r).elim
 |some u=>~\(u,rfl,r)
T! jY.none_of{o:Option Value}(r:jY none o):o=none:=by
 cases o with
 |none=>rfl
 |some u=>~(show False from r).elim
T! ajE{v:V}{u:Value}(r:RelV v u):PySem.W.handedIn u=true:=by
 cases v with
 |non=>cases(show u=Value.none from r);rfl
 |bl b=>cases(show u=Value.bool b from r);rfl
 |int i=>o!⟨t,e⟩:=(show∃t,u=Value.int i t from r);c! e;rfl
 |str x=>o!⟨t,e⟩:=(show∃t,u=Value.str x t from r);c! e;rfl
 |nG b=>o!⟨t,e⟩:=(show∃t,u=Value.bytes b t from r);c! e;rfl
 |flt b=>o!⟨t,e⟩:=(show∃t,u=Value.float b t from r);c! e;rfl
 |ref a=>cases(show u=Value.ref a from r);rfl
 |ty n=>cases(show u=Value.type n from r);rfl
section
variable{P:Program}{w:World}{H H':Hp}{h h':Heap}{a C dx:Addr}{fs z9:List (Str×V)}
T! R4(hok:fG P w H h)(e:H a=some (.ins C dx fs)):∃mA,xB h a dx C mA/\(∀f,jY (fs.lookup f) (mA f))/\PySem.Within mA (fs.map (·.1))/\fs.length<=1000/\H dx=some (.own a):=by
 o!⟨d,z,ne,ob,mA,n,r,q⟩:=(show ir P w H h a (.ins C dx fs)from hok a _ e);~\(mA,\(ob,n,ne),r,q,z,d)
end
structure lE(K:PySem.W.Frag)(C:Addr):Prop where
 pg:PySem.W.plainGet K C Str.empty=true
 hd:PySem.W.hasDictIn K C=true
 po:PySem.W.plainOver K C=true
 sa:PySem.W.findIn K (.ref C) "__setattr__"=some (some (.builtin "object.__setattr__"))
T! lE.get{K:PySem.W.Frag}{C:Addr}(c:lE K C)(f:Str):PySem.W.plainGet K C f=true:=c.pg
D! nF(K:PySem.W.Frag)(C:Addr)(f:Str):Prop:=PySem.W.findIn K (.ref C) f=some none
T! nF.arq{K:PySem.W.Frag}{C:Addr}{f:Str}(n:nF K C f):PySem.W.takerIn K C f=some none:=by
 u! PySem.W.takerIn;rw[show PySem.W.findIn K (.ref C) f=some none from n];rfl
structure Con(K:PySem.W.Frag)(C:Addr)(f:Str)(v:V)(u:Value):Prop where
 at_:PySem.W.findIn K (.ref C) f=some (some u)
 rel:RelV v u
 get:PySem.W.specialIn K u "__get__"=some none
 cp:PySem.W.copiedNames.contains f=false
structure Meth(K:PySem.W.Frag)(C:Addr)(m:Str)(f:Addr):Prop where
 at_:PySem.W.findIn K (.ref C) m=some (some (.ref f))
 fn:PySem.W.isFn K (.ref f)=true
 kp:PySem.W.keepIn K (.ref f)=true
section
variable{X:Cx}{pins:L!}{σ:St}{H:Hp}{s:Shared}{a C dx:Addr}{fs:List (Str×V)}{f:Str}{v:V}{A:Around}{E:B!}
T! abt{b:Bool}{Q:B!}(I:I!)(e:H a=some (.ins C dx fs))(c:lE X.K C)(n:nF X.K C f)(l:fs.lookup f=some v)
    (h:∀u s',Inv X pins σ H s'->RelV v u->Q u s'):wpAny M! A (getAttr (.ref a) f b) Q E s:=by
 o!⟨mA,O,r,_,_,_⟩:=R4 I.hok e;o!⟨u,hu,ru⟩:=jY.some_of (v:=v) (o:=mA f) (by rw[<-l];~r f);~get_map I.eY O (c.get f) c.hd n hu (ajE ru) (h u _ (I.tok _) ru)
T! abu{m:Str}{g:Addr}{pl:Sem Bool}{Q:Value×List Value->Shared->Prop}(I:I!)(e:H a=some (.ins C dx fs))(c:lE X.K C)(k:Meth X.K C m g)(l:fs.lookup m=none)
    (h:Q (.ref g,[.ref a]) s):wpAny M! A (getMethod (.ref a) m pl) Q E s:=by
 o!⟨mA,O,r,_,_,_⟩:=R4 I.hok e;h! hn:mA m=none:=jY.none_of (by rw[<-l];~r m);~ajs I.eY O (c.get m) k.at_ k.fn hn h
T! afl{y:V}{u:Value}{Q:Unit->Shared->Prop}(I:I!)(e:H a=some (.ins C dx fs))(c:lE X.K C)(n:nF X.K C f)(hl:fs.length<1000)(ry:RelV y u)
    (h:∀s',Inv X pins σ (upd H a (.ins C dx (gZ f y fs))) s'->Q () s'):wpAny M! A (setAttr (.ref a) f u) Q E s:=by
 o!⟨mA,O,r,wi,_,ho⟩:=R4 I.hok e;h! hz:(fs.map (·.1)).length<=sizeLine:=by rw[List.length_map,sizeLine_eq];om
 r! aqa I.eY O c.sa c.po n.arq c.hd wi hz λh' O' sb=>h _ ?_;h! hd:∃o,h'.get? dx=some o:=let\(o,_,_,e',_):=O'.ns;\(o,e');r! I.write (x:=a) (e:=dx) (by rw[e];~True.intro) (.inr ho) (λb q hb z=>(sb.2 b hb).trans z) hd ?_;r!\(by rw[cD O.ne];~ho,?_,O.ne,O'.obj,_,O'.ns,λg=>?_,λg hg=>?_);·h!:=acg f y fs;om
 ·show jY ((gZ f y fs).lookup g) (if g=f then some u else mA g)
  rw[acj];by_cases q:g=f;·rw[if_pos q,if_pos q];~ry
  ·rw[if_neg q,if_neg q];~r g
 ·by_cases q:g=f
  ·rw[q];~(Sq f y fs).1
  ·r!(Sq f y fs).2 g (wi g λz=>hg ?_)
   show(if g=f then some u else mA g)=none;rw[if_neg q];~z
T! Inv.made(I:I!):Inv X pins σ (upd (upd H s.heap.objs.size (.own (s.heap.objs.size+1))) (s.heap.objs.size+1) (.ins C s.heap.objs.size []))
    {s with heap:=(s.heap.push PySem.W.emptyDict).push (PySem.W.instObj C s.heap.objs.size)}:=by
 h! e1:(s.heap.push PySem.W.emptyDict).get? s.heap.objs.size=some PySem.W.emptyDict:=Heap.get?_push_size s.heap rfl;h! e2:((s.heap.push PySem.W.emptyDict).push (PySem.W.instObj C s.heap.objs.size)).get? (s.heap.objs.size+1)=some (PySem.W.instObj C s.heap.objs.size):=by
  h!:=Heap.get?_push_size (s.heap.push PySem.W.emptyDict) (o:=PySem.W.instObj C s.heap.objs.size) rfl
  rwa [Heap.size_push]at this
 h! e3:(s.heap.push PySem.W.emptyDict).Ns s.heap.objs.size (λ_=>none):=\(PySem.W.emptyDict,#[],_,e1,rfl,(λe he=>absurd he (by simp)),λ_=>rfl);h! I1:=I.laid (a:=s.heap.objs.size) (o:=.own (s.heap.objs.size+1)) (h':=s.heap.push PySem.W.emptyDict) (t':=s.toks) (λb u q=>Heap.get?_push_of_some _ q) n! \(_,e1);r! I1.laid (a:=s.heap.objs.size+1) (o:=.ins C s.heap.objs.size []) (t':=s.toks) (λb u q=>Heap.get?_push_of_some _ q) (Nat.le_of_eq (Heap.size_push _ _)) ?_;h! ne:s.heap.objs.size≠s.heap.objs.size+1:=Nat.ne_of_lt (Nat.lt_succ_self _);r!\(by rw[cD ne,gG],Nat.zero_le _,ne,e2,λ_=>none,(Heap.Ns1.of_empty e3).at λo q=>Heap.get?_push_of_some _ q,λ_=>True.intro,λy hy=>absurd rfl hy)
T! ahK{prog:Program}{w:World}{env:Env}{e:Expr}{f:Str}{pos:Pos}{s:Shared}{Q:B!}(hb:attributeBase e f env (eval e env)=eval e env)
    (h:wpAny N! A (eval e env) (λo s₁=>wpAny N! A (getAttr o f true) Q E s₁) E s):wpAny N! A (eval (.Attribute e f pos) env) Q E s:=
 Attribute_any_ h (by rw[arm_eval_Attribute,hb])
end
D! aqM(K:PySem.W.Frag)(ta:TE)(f:Str):TE:=λσ H Q=>ta σ H λx H1=>∃a C dx fs v,x=.ref a/\H1 a=some (.ins C dx fs)/\lE K C/\nF K C f/\fs.lookup f=some v/\Q v H1
D! aps(K:PySem.W.Frag)(ta tv:TE)(f:Str):TS:=λD σ H=>tv σ H λy H1=>ta σ H1 λx H2=>∃a C dx fs,x=.ref a/\H2 a=some (.ins C dx fs)/\lE K C/\nF K C f/\fs.length<1000/\
 D.nx σ (upd H2 a (.ins C dx (gZ f y fs)))
D! zf(X:Cx)(op:Operator)(rd:V->V->Hp->VK->Prop):Prop:=
 ∀(pins:L!) (s:Shared) (σ:St) (H:Hp) (x y:V) (u v:Value) (Q:VK),I!->RelV x u->RelV y v->rd x y H Q->wpAny M! X.A (inplaceOp op u v) (EP X pins σ Q) X.xe s
D! apt(K:PySem.W.Frag)(ta tv:TE)(rd:V->V->Hp->VK->Prop)(f:Str):TS:=λD σ H=>ta σ H λx H1=>∃a C dx fs v,x=.ref a/\H1 a=some (.ins C dx fs)/\lE K C/\nF K C f/\fs.lookup f=some v/\
 tv σ H1 λy H2=>rd v y H2 λz H3=>∃QX z9,H3 a=some (.ins C QX z9)/\z9.length<1000/\D.nx σ (upd H3 a (.ins C QX (gZ f z z9)))
section
variable{X:Cx}{o e value:Expr}{f:Str}{pos pos' N7:Pos}{ta tv:TE}
T! anS(he:PE X e ta)(hb:attributeBase e f X.env (eval e X.env)=eval e X.env):PE X (.Attribute e f pos) (aqM X.K ta f):=by
 intro pins s σ H Q I h;r! ahK hb (bM (he pins s σ H _ I h) λu s1 \(x,H1,I1,rx,a,C,dx,fs,v,ex,ea,c,n,l,q)=>?_);subst ex;obtain rfl:u=Value.ref a:=rx;~abt I1 ea c n l λu' s2 I2 ru=>\(v,H1,I2,ru,q)
T! aor(ha:PE X o ta)(hv:PE X value tv)(hs:swapsWith value (some (.Attribute o f pos')) pos.line X.env=pure false):PS X (.Assign [.Attribute o f pos'] value pos) (aps X.K ta tv f):=by
 intro pins s σ H D I h;r! plainObj_wpAny_Assign_Attribute (bM (hv pins s σ H _ I h) λu s1 \(y,H1,I1,ry,q)=>bM (ha pins s1 σ H1 _ I1 q) λov s2 \(x,H2,I2,rx,a,C,dx,fs,ex,ea,c,n,l,q2)=>?_) hs;subst ex;obtain rfl:ov=Value.ref a:=rx;~afl I2 ea c n l ry λs3 I3=>\(σ,_,I3,q2)
T! aot{op:Operator}{rd:V->V->Hp->VK->Prop}(ha:PE X o ta)(hv:PE X value tv)(hop:zf X op rd):PS X (.AugAssign (.Attribute o f N7) op value pos) (apt X.K ta tv rd f):=by
 intro pins s σ H D I h;r! wpAny_AugAssign_AttributeAny (bM (ha pins s σ H _ I h) λov s1 \(x,H1,I1,rx,a,C,dx,fs,v,ex,ea,c,n,l,q)=>?_);subst ex;obtain rfl:ov=Value.ref a:=rx;r! abt I1 ea c n l λu s2 I2 ru=>bM (hv pins s2 σ H1 _ I2 q) λw3 s3 \(y,H2,I3,ry,q3)=>bM (hop pins s3 σ H2 v y u w3 _ I3 ru ry q3) λw4 s4 \(z,H3,I4,rz,QX,z9,ea',l',q4)=>?_;~afl I4 ea' c n l' rz λs5 I5=>\(σ,_,I5,q4)
D! ao0:V->V->Hp->VK->Prop:=λx y H Q=>∃i j,x=.int i/\y=.int j/\Q (.int (i+j)) H
D! ao8:V->V->Hp->VK->Prop:=λx y H Q=>∃i j,x=.int i/\y=.int j/\Q (.int (i - j)) H
T! akg:zf X .Add ao0:=by
 rintro pins s σ H x y u v Q I rx ry ⟨i,j,rfl,rfl,q⟩
 o!⟨t,rfl⟩:=(show∃t,u=Value.int i t from rx);o!⟨t',rfl⟩:=(show∃t',v=Value.int j t' from ry);~PyProof.Rows.iadd_int \(.int (i+j),H,I.tok _,\(_,rfl),q)
T! aki:zf X .Sub ao8:=by
 rintro pins s σ H x y u v Q I rx ry ⟨i,j,rfl,rfl,q⟩
 o!⟨t,rfl⟩:=(show∃t,u=Value.int i t from rx);o!⟨t',rfl⟩:=(show∃t',v=Value.int j t' from ry);~PyProof.Rows.isub_int \(.int (i - j),H,I.tok _,\(_,rfl),q)
end
section
variable{X:Cx}{pins:L!}{σ:St}{H:Hp}{s:Shared}{A:Around}{E Q:B!}{c:Value}{b:Bool}
inductive qj(K:PySem.W.Frag)(H:Hp):V->Value->Prop where
 |non:qj K H .non (.type "NoneType")
 |bl (x:Bool):qj K H (.bl x) (.type "bool")
 |int (i:Int):qj K H (.int i) (.type "int")
 |str (x:Str):qj K H (.str x) (.type "str")
 |flt (x:UInt64):qj K H (.flt x) (.type "float")
 |lst {a:Addr} {xs:List V} (e:H a=some (.lst xs)):qj K H (.ref a) (.type "list")
 |nP {a:Addr} {o:Obj} {xs:List V} (e:H a=some (.nP o (.lst xs))):qj K H (.ref a) (.type "list")
 |tup {a:Addr} {xs:List V} (e:H a=some (.tup xs)):qj K H (.ref a) (.type "tuple")
 |dK {a:Addr} {kvs:List (Key×V)} (e:H a=some (.dK kvs)):qj K H (.ref a) (.type "dict")
 |dT {a:Addr} {kvs:List (List Key×V)} (e:H a=some (.dT kvs)):qj K H (.ref a) (.type "dict")
 |ins {a C dx:Addr} {fs:List (Str×V)} (e:H a=some (.ins C dx fs)) (cl:lE K C) (ha:PySem.W.findIn K (.ref C) "__class__"=some (some (.builtin "object.__class__")))
   (hn:PySem.W.specialIn K (.builtin "object.__class__") "__get__"=some (some (.builtin "getset_descriptor.__get__"))) (htk:PySem.W.takesIn K (.builtin "object.__class__")=some true)
   (hm:PySem.W.mroIn K C (.type "object")=some true):qj K H (.ref a) (.ref C)
end
end L2
namespace L2
open PySem PySem.Spec PyProof.Rows
structure dI(k:Nat)(A:Around):Prop where
 hd:A.handled=none
 dp:A.depth+3*k+5<recursionLimit
 un:A.units+16*k+200<cLine
T! dI.mono{j k:Nat}{A:Around}(r:dI k A)(h:j<=k):dI j A:=\(r.hd,by h!:=r.dp;om,by h!:=r.un;om)
T! dI.deeper{k:Nat}{A:Around}(r:dI (k+1) A)(env:Env):dI k (A.deeper env):=
 \(r.hd,by h!:=r.dp;show A.depth+1+3*k+5<_;om,by h!:=r.un;show A.units+3+16*k+200<_;om)
T! alv{A:Around}{C:Addr}{us:List Value}{kw:List (Str×Value)}:(A.under (.builtin "type.__call__" \(.ref C::us,kw))).depth=A.depth+1:=by
 first|rfl|simp[Around.under,Code.weight,Code.isCreation,Code.isGuard,Code.isCaller,Code.frames,Code.isFrame,guardIds]
T! aly{A:Around}{C:Addr}{us:List Value}{kw:List (Str×Value)}:(A.under (.builtin "type.__call__" \(.ref C::us,kw))).units=A.units+1:=by
 first|rfl|simp[Around.under,Code.cUnits,Code.frames,Code.isFrame]
T! dI.make{k:Nat}{A:Around}(r:dI (k+1) A)(C:Addr)(us:List Value)(kw:List (Str×Value)):dI k (A.under (.builtin "type.__call__" \(.ref C::us,kw))):=
 \(r.hd,by h!:=r.dp;rw[alv];om,by h!:=r.un;rw[aly];om)
T! dI.depth{k:Nat}{A:Around}(r:dI k A):A.depth<recursionLimit:=by h!:=r.dp;om
T! dI.units{k:Nat}{A:Around}(r:dI k A):A.units+64<cLine:=by h!:=r.un;om
D! afD:TA:=λ_ H Q=>Q [] H
D! aqI(ta:TE)(tr:TA):TA:=λσ H Q=>ta σ H λx H1=>tr σ H1 λxs H2=>Q (x::xs) H2
section
variable{X:Cx}{e:Expr}{es:List Expr}{te:TE}{t:TA}{pos:Pos}
T! Mx:PA X [] afD:=λ_ _ _ _ H Q I h=>Calls.spliced_nil \([],H,I,.nil,h)
T! Mw(ha:PE X e te)(hr:PA X es t)(hs:W!:=by rfl):PA X (e::es) (aqI te t):=by
 intro pos pins s σ H Q I h;rw[hs];show wpAny _ _ (spliced ((false,eval e X.env)::backTo pos (starEach es X.env))) _ _ s;r! Calls.spliced_cons (bM (ha pins s σ H _ I h) λu s1 \(x,H1,I1,r1,q1)=>?_);~bM (hr pos pins s1 σ H1 _ I1 q1) λus s2 \(xs,H2,I2,r2,q2)=>\(x::xs,H2,I2,.cons r1 r2,q2)
D! aq3(t:TA):TE:=λσ H Q=>t σ H λxs H1=>xs.length<=sizeLine/\∀p,H1 p=none->Q (.ref p) (upd H1 p (.tup xs))
D! aqQ(t:TA):TE:=λσ H Q=>t σ H λxs H1=>xs.length<=sizeLine/\∀p,H1 p=none->Q (.ref p) (upd H1 p (.lst xs))
T! adb{x1}(h:PA X es t):PE X (.Tuple es x1 pos) (aq3 t):=by
 intro pins s σ H Q I hq;r! wpAny_Tuple_spliced (bM (h pos pins s σ H _ I hq) λus s1 \(xs,H1,I1,r,z,q)=>\(by rw[<-r.length];~z,?_));h! hf:H1 s1.heap.objs.size=none:=I1.hok.fresh n!;r!\(.ref s1.heap.objs.size,upd H1 s1.heap.objs.size (.tup xs),I1.laid (t':=s1.toks) (λb u e=>Heap.get?_push_of_some _ e) n! ?_,rfl,q _ hf);~\(z,us,r,\(_,Heap.get?_push_size _ rfl,rfl,_,rfl))
T! anV(h:PA X es t):PE X (.List es pos) (aqQ t):=by
 intro pins s σ H Q I hq;r! wpAny_List_spliced (bM (h pos pins s σ H _ I hq) λus s1 \(xs,H1,I1,r,z,q)=>\(by rw[<-r.length];~z,?_));h! hf:H1 s1.heap.objs.size=none:=I1.hok.fresh n!;r!\(.ref s1.heap.objs.size,upd H1 s1.heap.objs.size (.lst xs),I1.laid (t':=s1.toks) (λb u e=>Heap.get?_push_of_some _ e) n! ?_,rfl,q _ hf);~\(z,us,0,r,Heap.get?_push_size _ rfl)
end
A! Sp:=List V->Hp->VK->XK->Prop
A! lW:=List Env->Hp->Shared->XK->B!
structure wY(P:Program)(w:World)(K:PySem.W.Frag)(mg:G!)(base:Heap)(A:Around)(outer:List Env)(s:Shared)(H:Hp):Prop where
 frames:A.frames=some outer
 mod:Mod K mg base
 bs:∀b o,base.get? b=some o->s.heap.get? b=some o/\H b=none
 uc:base.objs.size<=s.heap.objs.size
 nQ:s.heap.FunFrames base outer
 xP:∀b∈frs outer,H b=none
 hok:fG P w H s.heap
 bare:AllBare s.gens
D! CE(outer:List Env)(P:Program)(w:World)(H:Hp)(s:Shared)(Q:VK)(u:Value)(s':Shared):Prop:=
 ∃v H',s'.os=s.os/\AllBare s'.gens/\Un (frs outer) [] H H' s.heap s'.heap/\fG P w H' s'.heap/\RelV v u/\Q v H'
D! CR(CX:lW)(outer:List Env)(P:Program)(w:World)(H:Hp)(s:Shared)(Q:VK)(E:XK)(r:Result)(s':Shared):Prop:=
 match r with
 |.ok (.ret u)=>CE outer P w H s Q u s'
 |.ok _=>False
 |.error e=>CX outer H s E e s'
structure fM(P:Program)(w:World)(K:PySem.W.Frag)(mg:G!)(base:Heap)(CX:lW)(k:Nat)(f:Addr)(fd:FuncData)(ps:List Str)(sp:Sp):Prop where
 len:∀vs H Q E,sp vs H Q E->vs.length=ps.length
 run:∀(A:Around) (outer:List Env) (s:Shared) (H:Hp) (args:Args) (us:List Value) (vs:List V) (Q:VK) (E:XK),dI k A->wY P w K mg base A outer s H->BindsTo s fd args (ps.zip us)->Vals vs us->sp vs H Q E->
  codeAny (model P w) A (.call (.ref f) args) (CR CX outer P w H s Q E) s
T! fM.mono{P:Program}{w:World}{K:PySem.W.Frag}{mg:G!}{base:Heap}{CX:lW}{j k:Nat}{f:Addr}{fd:FuncData}{ps:List Str}{sp:Sp}(F:fM P w K mg base CX j f fd ps sp)(h:j<=k):
    fM P w K mg base CX k f fd ps sp:=\(F.len,λA outer s H args us vs Q E hr=>F.run A outer s H args us vs Q E (hr.mono h))
T! fM.imp{P:Program}{w:World}{K:PySem.W.Frag}{mg:G!}{base:Heap}{CX:lW}{k:Nat}{f:Addr}{fd:FuncData}{ps:List Str}{sp sp':Sp}(F:fM P w K mg base CX k f fd ps sp)
    (h:∀vs H Q E,sp' vs H Q E->sp vs H Q E):fM P w K mg base CX k f fd ps sp':=
 \(λvs H Q E q=>F.len vs H Q E (h _ _ _ _ q),λA outer s H args us vs Q E hr he hb hv hs=>F.run A outer s H args us vs Q E hr he hb hv (h _ _ _ _ hs))
T! wY.make{P:Program}{w:World}{K:PySem.W.Frag}{mg:G!}{base:Heap}{A:Around}{outer:List Env}{s:Shared}{H:Hp}(e:wY P w K mg base A outer s H)(C:Addr)(us:List Value)(kw:List (Str×Value)):
    wY P w K mg base (A.under (.builtin "type.__call__" \(.ref C::us,kw))) outer s H:=\(by first|~e.frames|(simpa [Around.under,Code.envs,Code.isFrame,pushEnvs]using e.frames),e.mod,e.bs,e.uc,e.nQ,e.xP,e.hok,e.bare)
section
variable{X:Cx}{pins:L!}{σ:St}{H:Hp}{s s':Shared}
T! Inv.JV(I:I!):wY X.prog X.w X.K X.mg X.base X.A X.stack s H:=
 \(I.ok.frames,I.ok.mod,I.bs,Nat.le_trans I.ok.uc I.sz,I.stack,I.Xz,I.hok,I.bare)
T! Inv.after{Q:VK}{u:Value}(I:I!)(h:CE X.stack X.prog X.w H s Q u s'):EP X pins σ Q u s':=by
 o!⟨v,H',os,bare,un,hok,r,q⟩:=h;o!⟨hh,g,d,t,Mv⟩:=s';obtain rfl:Mv=s.os:=os;~\(v,H',I.call (h':=hh) (g':=g) (d':=d) (t':=t) (ch:=[]) un hok bare (λb z=>absurd z (by simp)),r,q)
end
D! afB(sp:Sp)(d8:List V)(E:XK)(t:TA):TE:=λσ H Q=>t σ H λvs H1=>sp (vs++d8) H1 Q E
D! afC(C:Addr)(m:Str)(sp:Sp)(d8:List V)(E:XK)(ta:TE)(t:TA):TE:=λσ H Q=>ta σ H λx H1=>∃a dx fs,x=.ref a/\H1 a=some (.ins C dx fs)/\fs.lookup m=none/\
 t σ H1 λvs H2=>sp (x::(vs++d8)) H2 Q E
D! aqR(C:Addr)(sp:Sp)(d8:List V)(E:XK)(t:TA):TE:=λσ H Q=>t σ H λvs H1=>∀x dx,H1 x=none->H1 dx=none->dx≠x->
 sp (.ref x::(vs++d8)) (upd (upd H1 dx (.own x)) x (.ins C dx [])) (λv H2=>v=.non/\Q (.ref x) H2) E
D! Binds(K:PySem.W.Frag)(fd:FuncData)(ps:List Str)(ds:List Value):Prop:=
 ∀(s:Shared) (us:List Value),K.In s.heap->(us++ds).length=ps.length->BindsTo s fd \(us,[]) (ps.zip (us++ds))
T! Binds.all{K:PySem.W.Frag}{fd:FuncData}{ps:List Str}(h:∀us:List Value,us.length=ps.length->bindArgs fd \(us,[])=pure (ps.zip us)):Binds K fd ps []:=λs us _ hl=>by
 rw[List.append_nil]at hl⊢;~.of_eq (h us hl)
D! Passes(CX:lW)(X:Cx)(E:XK):Prop:=∀(pins:L!) (σ:St) (H:Hp) (s:Shared) (e:Value) (s':Shared),I!->CX X.stack H s E e s'->X.xe e s'
section
variable{X:Cx}{CX:lW}{k:Nat}{f C:Addr}{fd:FuncData}{ps:List Str}{sp:Sp}{d8:List V}{ds:List Value}{E:XK}{x m:Str}{p pos apos:Pos}{e o:Expr}{es:List Expr}{ta:TE}{t:TA}
T! VL{pins:L!}{σ:St}{H:Hp}{s:Shared}{Q:VK}{us:List Value}{vs:List V}(F:X!)(hr:dI k X.A)(hb:Binds X.K fd ps ds)(hd:Vals d8 ds)(hx:Passes CX X E)
    (I:I!)(r:Vals vs us)(h:sp (vs++d8) H Q E):wpAny M! X.A (call (.ref f) us) (EP X pins σ Q) X.xe s:=by
 h! r2:Vals (vs++d8) (us++ds):=r.append hd;h! hl:(us++ds).length=ps.length:=by rw[<-r2.length];~F.len _ _ _ _ h
 r! wpAny_call (codeAny_mono (F.run X.A X.stack s H \(us,[]) (us++ds) (vs++d8) Q E hr I.JV (hb s us I.eY hl) r2 h) λr s' hq=>?_);cases r with
 |error e=>~hx pins σ H s e s' I hq
 |ok fl=>
  cases fl with
  |ret u=>~I.after hq
  |next=>~False.elim hq
  |brk=>~False.elim hq
  |cont=>~False.elim hq
T! anM(F:X!)(hr:dI k X.A)(hg:Gl X x)(hm:X.mg x=some (.ref f))(hk:PySem.W.keepIn X.K (.ref f)=true)(hb:Binds X.K fd ps ds)(hd:Vals d8 ds)(hx:Passes CX X E)
    (ha:PA X (e::es) t)(hdb:E!:=by decide)(he:W!:=by rfl)(hpl:Q!:=by rfl):
    PE X (.Call (.Name x p) (e::es) [] pos) (afB sp d8 E t):=by
 intro pins s σ H Q I h;r! wpAny_Call_Name_kw (ym I hg hm ?_ hdb);r! PySem.W.callWith_K (h₀:=X.base) I.ok.mod.uB hk (bM (ha pos pins s σ H _ I h) λus s1 \(vs,H1,I1,r,q)=>\(I1.eY,?_)) he hpl;~VL F hr hb hd hx I1 r q
T! anY{pl:Sem Bool}(he:PE X o ta)(c:lE X.K C)(hm:Meth X.K C m f)(F:X!)(hr:dI k X.A)(hb:Binds X.K fd ps ds)(hd:Vals d8 ds)(hx:Passes CX X E)(ha:PA X (e::es) t)
    (hst:W!:=by rfl)(hpl:Q!:=by rfl)
    (ht:eval (.Call (.Attribute o m apos) (e::es) [] pos) X.env=(do
      let ov<-eval o X.env
      standAt apos.atName
      let(f,first)<-holding [ov] (getMethod ov m pl)
      callWith pos f first (backTo pos (starEach (e::es) X.env)) (backToKw pos (keywordEach [] X.env))):=by rfl):
    PE X (.Call (.Attribute o m apos) (e::es) [] pos) (afC C m sp d8 E ta t):=by
 intro pins s σ H Q I h;r! PySem.W.methodCall_KW (pl:=pl) (bM (he pins s σ H _ I h) λu s1 \(x,H1,I1,rx,a,dx,fs,ex,ea,l,q)=>?_) ht;subst ex;obtain rfl:u=Value.ref a:=rx;r! abu I1 ea c hm l ?_;r! PySem.W.callWith_K (first:=[.ref a]) (h₀:=X.base) I.ok.mod.uB hm.kp (bM (ha pos pins s1 σ H1 _ I1 q) λus s2 \(vs,H2,I2,r,q2)=>\(I2.eY,?_)) hst hpl;~VL (us:=.ref a::us) (vs:=.ref a::vs) F hr hb hd hx I2 (.cons rfl r) q2
T! anZ{pl:Sem Bool}(he:PE X o ta)(c:lE X.K C)(hm:Meth X.K C m f)(F:X!)(hr:dI k X.A)(hb:Binds X.K fd ps ds)(hd:Vals d8 ds)(hx:Passes CX X E)
    (ht:eval (.Call (.Attribute o m apos) [] [] pos) X.env=(do
      let ov<-eval o X.env
      standAt apos.atName
      let(f,first)<-holding [ov] (getMethod ov m pl)
      callWith pos f first (backTo pos (starEach [] X.env)) (backToKw pos (keywordEach [] X.env))):=by rfl):
    PE X (.Call (.Attribute o m apos) [] [] pos) (afC C m sp d8 E ta afD):=by
 intro pins s σ H Q I h;r! PySem.W.methodCall_KW (pl:=pl) (bM (he pins s σ H _ I h) λu s1 \(x,H1,I1,rx,a,dx,fs,ex,ea,l,q)=>?_) ht;subst ex;obtain rfl:u=Value.ref a:=rx;r! abu I1 ea c hm l ?_;~PySem.W.callWith_K0 (first:=[.ref a]) I1.eY hm.kp (VL (us:=[.ref a]) (vs:=[.ref a]) F hr hb hd hx I1 (.cons rfl .nil) q)
structure Mk(K:PySem.W.Frag)(C f:Addr):Prop where
 makes:PySem.W.makesIn K C=true
 init:PySem.W.findIn K (.ref C) "__init__"=some (some (.ref f))
 fn:PySem.W.isFn K (.ref f)=true
 kp:PySem.W.keepIn K (.ref C)=true
T! apo{pins:L!}{σ:St}{H:Hp}{s:Shared}{Q:VK}{us:List Value}{vs:List V}(M:Mk X.K C f)(F:X!)(hr:dI (k+1) X.A)(hb:Binds X.K fd ps ds)(hd:Vals d8 ds)
    (hx:Passes CX X E)(I:I!)(r:Vals vs us)
    (h:∀x dx,H x=none->H dx=none->dx≠x->sp (.ref x::(vs++d8)) (upd (upd H dx (.own x)) x (.ins C dx [])) (λv H2=>v=.non/\Q (.ref x) H2) E):
    wpAny M! X.A (call (.ref C) us) (EP X pins σ Q) X.xe s:=by
 h! hq:=h (s.heap.objs.size+1) s.heap.objs.size (I.hok.fresh (Nat.le_succ _)) (I.hok.fresh n!) (Nat.ne_of_lt (Nat.lt_succ_self _));h! I2:=Inv.made (C:=C) I;h! r2:Vals (V.ref (s.heap.objs.size+1)::(vs++d8)) (Value.ref (s.heap.objs.size+1)::(us++ds)):=.cons rfl (r.append hd);h! hl:(Value.ref (s.heap.objs.size+1)::us++ds).length=ps.length:=by
  h! e:=r2.length;rw[F.len _ _ _ _ hq]at e;~e.symm
 r! wpAny_call (alx (f:=f) I.eY M.makes M.init (beq_iff_eq.mp M.fn) (codeAny_mono (F.run _ X.stack _ _ \(Value.ref (s.heap.objs.size+1)::us,[]) (Value.ref (s.heap.objs.size+1)::(us++ds)) _ _ E (hr.make C us [])
  (I2.JV.make C us []) (hb _ (Value.ref (s.heap.objs.size+1)::us) I2.eY hl) r2 hq) λr s' yf=>?_))
 cases r with
 |error e=>~hx pins σ _ _ e s' I2 yf
 |ok fl=>
  cases fl with
  |ret u=>
   o!⟨v,H',I3,rv,ev,q3⟩:=I2.after yf;subst ev;~\(rv,\(V.ref (s.heap.objs.size+1),H',I3,rfl,q3))
  |next=>~False.elim yf
  |brk=>~False.elim yf
  |cont=>~False.elim yf
T! anW(M:Mk X.K C f)(F:X!)(hr:dI (k+1) X.A)(hg:Gl X x)(hm:X.mg x=some (.ref C))(hb:Binds X.K fd ps ds)(hd:Vals d8 ds)(hx:Passes CX X E)
    (ha:PA X (e::es) t)(hdb:E!:=by decide)(he:W!:=by rfl)(hpl:Q!:=by rfl):
    PE X (.Call (.Name x p) (e::es) [] pos) (aqR C sp d8 E t):=by
 intro pins s σ H Q I h;r! wpAny_Call_Name_kw (ym I hg hm ?_ hdb);r! PySem.W.callWith_K (h₀:=X.base) I.ok.mod.uB M.kp (bM (ha pos pins s σ H _ I h) λus s1 \(vs,H1,I1,r,q)=>\(I1.eY,?_)) he hpl;~apo M F hr hb hd hx I1 r q
end
section
variable{X:Cx}{CX:lW}{k:Nat}{f C:Addr}{fd:FuncData}{ps ks:List Str}{sp:Sp}{E:XK}{x m:Str}{p pos apos asn:Pos}{e o:Expr}{es:List Expr}{kws:List Keyword}{te ta:TE}{t tk:TA}{nm:Option Str}
structure asd(K:PySem.W.Frag)(fd:FuncData)(ps ks:List Str)(g:List Value->List Value->List Value)(gV:List V->List V->List V):Prop where
 to:∀(s:Shared) (us ws:List Value),K.In s.heap->(g us ws).length=ps.length->BindsTo s fd \(us,ks.zip ws) (ps.zip (g us ws))
 rel:∀{vs:List V} {us:List Value} {zs:List V} {ws:List Value},Vals vs us->Vals zs ws->Vals (gV vs zs) (g us ws)
variable{g:List Value->List Value->List Value}{gV:List V->List V->List V}
end
structure b7(N P:List Str)(sc:Scope):Prop where
 kind:sc.kind=.function
 co:sc.isCoroutine=false
 gen:sc.isGenerator=false
 nd:N.Nodup
 pre:N.take P.length=P
 par:∀x∈P,sc.names.lookup x=some .local\/sc.names.lookup x=some .cell
 alT:∀y∈sc.names,y.2≠.free
T! aam{kindOf:Str->Option NameKind}{x:Str}:∀{binds:List (Str×Value)} {m:G!},(∀v,(x,v)∉binds)->bindL kindOf binds m x=m x
 |[],_,_=>rfl
 |(n,v)::r,m,h=>by
  u! bindL;rw[aam λw hw=>h w (List.mem_cons_of_mem _ hw)];split
  ·h!:x≠n:=by rintro rfl;~h v List.mem_cons_self
   simp[this]
  ·rfl
T! aak{kindOf:Str->Option NameKind}{x:Str}:∀{binds:List (Str×Value)} {m:G!},(∀v,(x,v)∉binds)->bindC kindOf binds m x=m x
 |[],_,_=>rfl
 |(n,v)::r,m,h=>by
  u! bindC;rw[aak λw hw=>h w (List.mem_cons_of_mem _ hw)];split;·rfl
  ·h!:x≠n:=by rintro rfl;~h v List.mem_cons_self
   simp[this]
T! aal{kindOf:Str->Option NameKind}{x:Str}{v:Value}:∀{P:List Str} {vs:List Value} {i:Nat} {m:G!},P.Nodup->P[i]?=some x->vs[i]?=some v->kindOf x=some .local->
    bindL kindOf (P.zip vs) m x=some v
 |[],_,_,_,_,h,_,_=>by simp at h
 |_::_,[],_,_,_,_,h,_=>by simp at h
 |p::P,w::vs,0,m,nd,h1,h2,hk=>by
  simp at h1 h2;subst h1;subst h2;show bindL kindOf ((p,w)::P.zip vs) m p=_;u! bindL;rw[aam λv hv=>(List.nodup_cons.mp nd).1 (List.of_mem_zip hv).1,if_pos hk];simp
 |p::P,w::vs,i+1,m,nd,h1,h2,hk=>by
  show bindL kindOf ((p,w)::P.zip vs) m x=_;u! bindL;~aal (i:=i) (List.nodup_cons.mp nd).2 (by simpa using h1) (by simpa using h2) hk
T! aaj{kindOf:Str->Option NameKind}{x:Str}{v:Value}:∀{P:List Str} {vs:List Value} {i:Nat} {m:G!},P.Nodup->P[i]?=some x->vs[i]?=some v->kindOf x≠some .local->
    bindC kindOf (P.zip vs) m x=some v
 |[],_,_,_,_,h,_,_=>by simp at h
 |_::_,[],_,_,_,_,h,_=>by simp at h
 |p::P,w::vs,0,m,nd,h1,h2,hk=>by
  simp at h1 h2;subst h1;subst h2;show bindC kindOf ((p,w)::P.zip vs) m p=_;u! bindC;rw[aak λv hv=>(List.nodup_cons.mp nd).1 (List.of_mem_zip hv).1,if_neg hk];simp
 |p::P,w::vs,i+1,m,nd,h1,h2,hk=>by
  show bindC kindOf ((p,w)::P.zip vs) m x=_;u! bindC;~aaj (i:=i) (List.nodup_cons.mp nd).2 (by simpa using h1) (by simpa using h2) hk
D! start(N:List Str)(vs:List V):St:=vs.map some++List.replicate (N.length - vs.length) none
D! jK(CX:lW)(P:Program)(w:World)(K:PySem.W.Frag)(mg:G!)(base:Heap)(N:List Str)(qual:Str)(scope:Scope)(f:Addr)(cd:Value)(A:Around)(outer:List Env)(s:Shared)(H:Hp)(E:XK):Cx where
 prog:=P
 w:=w
 K:=K
 mg:=mg
 base:=base
 A:=A.deeper (envOfC qual scope s.heap.objs.size f cd)
 N:=N
 s₀:=s
 H₀:=H
 env:=envOfC qual scope s.heap.objs.size f cd
 outer:=outer
 stack:=envOfC qual scope s.heap.objs.size f cd::outer
 ex:=[]
 calm:=true
 fn:=λ_=>true
 pn:=[]
 xe:=λe s'=>wpAny (model P w) (A.deeper (envOfC qual scope s.heap.objs.size f cd)) (leaving (envOfC qual scope s.heap.objs.size f cd) e) (λ_ Hw=>CX outer H s E e Hw) (λe' Hw=>CX outer H s E e' Hw) s'
T! aaE{sc:Scope}{n:Nat}{x:Str}(h:sc.names.lookup x=some .cell):∃c,(cellsFrom n sc.names []).lookup x=some c:=by
 h! q:=PySem.W.cellsFrom_some sc.names n [] (.inl h);~Option.isSome_iff_exists.mp q
T! akl{CX:lW}{P:Program}{w:World}{K:PySem.W.Frag}{mg:G!}{base:Heap}{N ps:List Str}{qual:Str}{scope:Scope}{f:Addr}{cd:Value}{A:Around}{outer:List Env}{s s1:Shared}{H:Hp}{E:XK}{us:List Value}{vs:List V}
    (S:b7 N ps scope)(hd:A.handled=none)(e0:wY P w K mg base A outer s H)(hl:vs.length=ps.length)(r:Vals vs us)
    (x:InCallC s s.heap.objs.size (bindL (envOfC qual scope s.heap.objs.size f cd).kindOf (ps.zip us) λ_=>none) (cellsFrom (s.heap.objs.size+1) scope.names []) (bindC (envOfC qual scope s.heap.objs.size f cd).kindOf (ps.zip us) λ_=>none) s1):
    Inv (jK CX P w K mg base N qual scope f cd A outer s H E) [] (start N vs) H s1:=by
 h! hpl:ps.length<=N.length:=by h!:=congrArg List.length S.pre;rw[List.length_take]at this;om
 o!⟨h1,tk,rfl,hk⟩:=x.done;h! GK:∀b:Addr,b∉(jK CX P w K mg base N qual scope f cd A outer s H E).ex:=λb z=>absurd (show b∈([]:List Addr)from z) (by simp)
 r!\(\(e0.mod,S.kind,rfl,rfl,Nat.le_refl _,λy z c h1 h2=>?_,λy hy=>?_,λy c _ h=>?_,λ_=>hd,Around.frames_deeper e0.frames,.inr \(rfl,rfl),λb z=>absurd z (GK b),e0.bs,e0.uc,λb _ _=>GK b,λb z=>absurd z (GK b),e0.nQ,e0.xP),
  rfl,e0.bare,Un.kept hk,\(_,x.toInCall.ns,λi y v h1 h2 h3=>?_),λy c h=>\(_,x.cell y c h),e0.hok.fresh n!,λy c h=>?_,λp hp=>absurd (show p∈([]:L!)from hp) (by simp),e0.hok.kept hk,?_)
 ·~name_of_addr x.apart (PySem.mem_of_lookup h1) (PySem.mem_of_lookup h2)
 ·h! hy:scope.names.lookup y=some .cell\/scope.names.lookup y=some .free:=hy
  rcases hy with hy|hy;·~aaE hy
  ·~absurd rfl (S.alT _ (PySem.mem_of_lookup hy))
 ·~Nat.le_of_lt (x.above y c (PySem.mem_of_lookup h))
 ·h! hi:i<vs.length:=by
   u! start at h2;by_cases hi:i<vs.length;·~hi
   ·rw[List.getElem?_append_right (by simpa using hi)]at h2
    rw[List.getElem?_replicate]at h2;split at h2<;>c! h2
  h! ha:vs[i]?=some v:=by
   u! start at h2;rw[List.getElem?_append_left (by simpa using hi),List.getElem?_map]at h2;cases e:vs[i]? with
   |none=>rw[e]at h2;c! h2
   |some a=>rw[e]at h2;c! h2;rfl
  o!⟨u,hu,rv⟩:=r.get ha;h! hp:ps[i]?=some y:=by
   rw[<-S.pre,List.getElem?_take_of_lt o?];~h1
  h! ndP:ps.Nodup:=by rw[<-S.pre];~S.nd.sublist (List.take_sublist _ _)
  r!\(u,rv,?_);rcases S.par y (List.mem_of_getElem? hp)with k|k;·~.inl \(k,aal ndP hp hu k)
  ·o!⟨c,e⟩:=aaE (n:=s.heap.objs.size+1) k
   r! .inr \(.inl k,c,e,?_);h! q:=x.cell y c e;rw[aaj ndP hp hu (by show scope.names.lookup y≠_;rw[k];decide)]at q;~q
 ·~e0.hok.fresh (Nat.le_of_lt (x.above y c (PySem.mem_of_lookup h)))
 ·u! start
  show _=N.length;rw[List.length_append,List.length_map,List.length_replicate];om
T! Q9{CX:lW}{P:Program}{w:World}{K:PySem.W.Frag}{mg:G!}{base:Heap}{k:Nat}{f:Addr}{name qual:Str}{params:Arguments}{body:List Stmt}{scope:Scope}{dV kV doc pm cdv ct oc:Value}{an od:Option Addr}
    {osl:Array (Option Value)}{N ps:List Str}{sp:Sp}(lk:K.lookup f=some \(oc,od,.func (PySem.W.fnOf name qual params body scope dV kV doc pm an cdv ct),osl))(hcd:PySem.W.codeIn K cdv qual=true)(S:b7 N ps scope)
    (len:∀vs H Q E,sp vs H Q E->vs.length=ps.length)
    (hbody:∀(A:Around) (outer:List Env) (s:Shared) (H:Hp) (vs:List V) (Q:VK) (E:XK),dI k (A.deeper (envOfC qual scope s.heap.objs.size f cdv))->sp vs H Q E->
      ∃t,lJ (jK CX P w K mg base N qual scope f cdv A outer s H E) body t/\t {nx:=λ_ H'=>Q .non H',rt:=Q} (start N vs) H):
    fM P w K mg base CX (k+1) f (PySem.W.fnOf name qual params body scope dV kV doc pm an cdv ct) ps sp:=by
 r!\(len,λA outer s H args us vs Q E hr e0 hb r hsp=>?_);h! hl:=len _ _ _ _ hsp;h! KX:K.In s.heap:=e0.mod.uB.keeps λb o e=>(e0.bs b o e).1;h! lim:s.heap.NoLimit:=e0.mod.nolimit.keeps λb o e=>(e0.bs b o e).1;h! hkind:∀y∈ps.zip us,scope.names.lookup y.1=some .local\/(scope.names.lookup y.1=some .cell/\((cellsFrom (s.heap.objs.size+1) scope.names []).lookup y.1).isSome=true):=λ\(n,v) hy=>by
  rcases S.par n (List.of_mem_zip hy).1 with q|q;·~.inl q
  ·~.inr \(q,PySem.W.cellsFrom_some _ _ _ (.inl q))
 r! codeAny_call_function hr.depth (KX _ _ lk) rfl S.co S.gen rfl (PySem.W.codeRec_of KX hcd) (hb _ _ _ _ ?_);r! wpAny_newFunctionEnv_cells S.kind hkind λenv he s1 x=>?_;subst he;r!\(lim.keeps x.toInCall.keep,codeAny_func ?_);o!⟨t,ht,hq⟩:=hbody A outer s H vs Q E (hr.deeper _) hsp;h! I:Inv (jK CX P w K mg base N qual scope f cdv A outer s H E) [] (start N vs) H s1:=akl S hr.hd e0 hl r x;r! wpAny_mono (ht [] s1 (start N vs) H _ I hq) (λfl s' hs=>?_) λe s' hs=>hs
 h! fin:∀{σ':St} {H':Hp} {v:V} {u:Value},Inv (jK CX P w K mg base N qual scope f cdv A outer s H E) [] σ' H' s'->RelV v u->Q v H'->CE outer P w H s Q u s':=
  λ{σ' H' v u} J rv q=>\(v,H',J.os,J.bare,J.base,J.hok,rv,q)
 cases fl with
 |ret u=>
  o!⟨v,σ',H',J,rv,q⟩:=hs;~fin J rv q
 |next=>
  o!⟨σ',H',J,q⟩:=hs;~fin (v:=V.non) (u:=Value.none) J rfl q
 |brk=>
  o!⟨_,_,_,q⟩:=hs;~False.elim q
 |cont=>
  o!⟨_,_,_,q⟩:=hs;~False.elim q
end L2
namespace L2
open PySem PySem.Spec PyProof.Rows
section
variable{X:Cx}{x:Str}{p pos:Pos}{e:Expr}{es:List Expr}{t:TA}{id T:String}{r:List V->Hp->VK->Prop}
D! tCB(r:List V->Hp->VK->Prop)(t:TA):TE:=λσ H Q=>t σ H λvs H1=>r vs H1 Q
T! U3(hc:jF X (.builtin id) r)(hg:Gl X x)(hm:X.mg x=none)(hv:bootBuiltins x=some (.builtin id))(ha:PA X (e::es) t)(hn:x≠"__name__":=by decide)(hdb:E!:=by decide)
    (he:W!:=by rfl)(hpl:Q!:=by rfl):PE X (.Call (.Name x p) (e::es) [] pos) (tCB r t):=by
 intro pins s σ H Q I h;r! wpAny_Call_Name_kw (Lw I hg hm hv ?_ hn hdb);~PyProof.Rows.callWith_builtin1 (bM (ha pos pins s σ H _ I h) λus s1 \(vs,H1,I1,r1,q1)=>hc pins s1 σ H1 vs us Q I1 r1 q1) he hpl
T! anN(hc:jF X (.type T) r)(hg:Gl X x)(hm:X.mg x=none)(hv:bootBuiltins x=some (.type T))(ha:PA X (e::es) t)(hn:x≠"__name__":=by decide)(hdb:E!:=by decide)
    (he:W!:=by rfl)(hpl:Q!:=by rfl):PE X (.Call (.Name x p) (e::es) [] pos) (tCB r t):=by
 intro pins s σ H Q I h;r! wpAny_Call_Name_kw (Lw I hg hm hv ?_ hn hdb);~PyProof.Rows.callWith_type1 (bM (ha pos pins s σ H _ I h) λus s1 \(vs,H1,I1,r1,q1)=>hc pins s1 σ H1 vs us Q I1 r1 q1) he hpl
end
end L2
namespace HT
open PySem PyProof.Rows
section
open PySem.SeqAt
open PySem.AutoSeq1 (wpAny_loadPart')
open PySem.MeetsSeq PySem.MeetsSeq2 PySem.MeetsSeq3
end
section
variable{prog:Program}{w:World}{A:Around}{E:B!}{s:Shared}
D! cM(n d:Nat):Option Int->Nat
 |none=>d
 |some v=>if v<0 then(v+(n:Int)).toNat else min v.toNat n
T! apv(n d:Nat)(hd:d<=n)(o:Option Int):cM n d o<=n:=by
 cases o with
 |none=>~hd
 |some v=>
  show(if v<0 then(v+(n:Int)).toNat else min v.toNat n)<=n;by_cases hv:v<0;·rw[if_pos hv];om
  ·rw[if_neg hv];~Nat.min_le_right _ _
T! aaG(v:Int)(n d:Nat):(if v<0 then max (v+(n:Int)) 0 else min v (n:Int))=((cM n d (some v):Nat):Int):=by
 show(if v<0 then max (v+(n:Int)) 0 else min v (n:Int))=(((if v<0 then(v+(n:Int)).toNat else min v.toNat n):Nat):Int);by_cases hv:v<0;·S![if_pos hv];om
 ·S![if_neg hv];om
T! ahy(lo hi:Option Int)(n:Nat):Builtin.Slice.sliceAdjust lo hi 1 (n:Int)=(((cM n 0 lo:Nat):Int),((cM n n hi:Nat):Int)):=by
 h! h1:¬((1:Int)<0):=by om
 u! Builtin.Slice.sliceAdjust;S![h1,if_false];r! Prod.ext ?_ ?_
 ·cases lo with
  |none=>rfl
  |some v=>~aaG v n 0
 ·cases hi with
  |none=>rfl
  |some v=>~aaG v n n
T! aog(i j:Nat):Builtin.Slice.slicePlaces (i:Int) (j:Int) 1=j - i:=by
 u! Builtin.Slice.slicePlaces;h! h1:(1:Int)>0:=by om
 S![h1,if_true,Int.ediv_one];split<;>om
T! afn{v:Value}{o:Option Int}{Q:Option Int->Shared->Prop}(p:IsPart v o)(h:Q o s):wpAny N! A (Builtin.Slice.slicePartIndex v) Q E s:=by
 cases p with
 |none=>~slicePart_none h
 |int i t=>~slicePart_int h
T! aqn{sl:Addr}{vl vu:Value}{lo hi:Option Int}{n:Nat}{Q:Int×Int×Nat->Shared->Prop}(hs:s.heap.IsSliceOf sl vl vu .none)(pl:IsPart vl lo)(pu:IsPart vu hi)
    (h:Q (((cM n 0 lo:Nat):Int),1,cM n n hi - cM n 0 lo) s):wpAny N! A (Builtin.Slice.sliceApplied (.ref sl) (pure (n:Int))) Q E s:=by
 o!⟨os,Gm,hcs,K7⟩:=id hs;u! Builtin.Slice.sliceApplied Builtin.Slice.sliceFields;r! wpAny_bind (wpAny_bind (wpAny_field Gm K7 (x:=vl) rfl (wpAny_bind (wpAny_field Gm K7 (x:=vu) rfl (wpAny_bind (wpAny_field Gm K7 (x:=.none) rfl (wpAny_pure ?_)))))));r! wpAny_bind (slicePart_none ?_);show wpAny _ _ (if((1:Int)==0)=true then _ else _) _ _ s;rw[if_neg d?];r! wpAny_bind (afn pl (wpAny_bind (afn pu (wpAny_bind (wpAny_pure ?_)))));show wpAny _ _ (match Builtin.Slice.sliceAdjust lo hi 1 (n:Int)with|(lo,hi)=>pure (lo,(1:Int),Builtin.Slice.slicePlaces lo hi 1)) _ _ s;rw[ahy lo hi n];show wpAny _ _ (pure (((cM n 0 lo:Nat):Int),(1:Int),Builtin.Slice.slicePlaces ((cM n 0 lo:Nat):Int) ((cM n n hi:Nat):Int) 1)) _ _ s;rw[aog];~wpAny_pure h
T! aod(xs:Array Value)(i k:Nat):((List.range k).filterMap λ(m:Nat)=>xs[((i:Int)+(m:Int)*1).toNat]?).toArray=((xs.toList.drop i).take k).toArray:=by
 h! e:(λ(m:Nat)=>xs[((i:Int)+(m:Int)*1).toNat]?)=λm=>xs[i+m]?:=by
  funext m;h!:((i:Int)+(m:Int)*1).toNat=i+m:=by om
  rw[this]
 rw[e];h!:=pick_run xs i k;rw[List.filterMap_map]at this;h! e2:((λx=>xs[x]?)∘λx=>i+x)=λm=>xs[i+m]?:=rfl;rw[e2]at this;rw[this]
T! ajr{t sl:Addr}{items:Array Value}{vl vu:Value}{lo hi:Option Int}{Q:B!}(ht:IsTup s.heap t items)(hs:s.heap.IsSliceOf sl vl vu .none)(pl:IsPart vl lo)(pu:IsPart vu hi)
    (hw:¬(cM items.size 0 lo=0/\cM items.size items.size hi=items.size))
    (h:Q (.ref s.heap.objs.size) {s with heap:=s.heap.push {cls:=.type "tuple",data:=.seq ((items.toList.drop (cM items.size 0 lo)).take (cM items.size items.size hi - cM items.size 0 lo)).toArray}})
    (hsz:items.size<=sizeLine):wpAny N! A (getItem (.ref t) (.ref sl)) Q E s:=by
 h! Lg:sizeOk (.seq ((items.toList.drop (cM items.size 0 lo)).take (cM items.size items.size hi - cM items.size 0 lo)).toArray):=by
  show((items.toList.drop (cM items.size 0 lo)).take (cM items.size items.size hi - cM items.size 0 lo)).toArray.size<=sizeLine;rw[List.size_toArray,List.length_take,List.length_drop,Array.length_toList];om
 h! hj:cM items.size items.size hi<=items.size:=apv _ _ n! hi;o!⟨os,Gm,hcs,K7⟩:=id hs;h! hTs:s.TypeIs (.ref sl) "slice":=\(os,Gm,hcs);u! getItem;try with_reducible r! wpAny_holding ?_
 first|r! wpAny_bind (wpAny_pure ?_)|skip
 r! wpAny_bind (wpAny_sequenceKey ht.typeIs d? ?_)
 r! wpAny_bind (wpAny_callSpecial?_slot (name:=Str.ofString "__getitem__") ht.typeIs PyProof.Rows.slot_tuple_getitem
  (wpAny_call_entry PyProof.Rows.slot_tuple_getitem ht.typeIs entry_tuple_getitem ?_ (args_tuple_getitem _ _)))
 show wpAny _ _ (Builtin.Tuple.tupleItemsOf (.ref t)>>=_) _ _ s;r! wpAny_bind (tupleItemsOf_ ht ?_);r! wpAny_bind (wpAny_typeOf hTs ?_);rw[if_pos d?];r! wpAny_bind (aqn hs pl pu ?_);h! hno:¬((((cM items.size 0 lo:Nat):Int)==0&&(1:Int)==1&&(cM items.size items.size hi - cM items.size 0 lo)==items.size)=true):=by
  intro q;rw[Bool.and_eq_true,Bool.and_eq_true]at q;h! q1:((cM items.size 0 lo:Nat):Int)=0:=eq_of_beq q.1.1;h! q2:cM items.size items.size hi - cM items.size 0 lo=items.size:=eq_of_beq q.2;~hw \(o?,o?)
 show wpAny _ _ (if(((cM items.size 0 lo:Nat):Int)==0&&(1:Int)==1&&(cM items.size items.size hi - cM items.size 0 lo)==items.size)=true then _ else _) _ _ s;rw[if_neg hno,aod]
 first
  |~wpAny_bind (m:=Builtin.Tuple.tupleExact _) (wpAny_newObj_type (wpAny_pure \(_,rfl,wpAny_pure h)) Lg)
  |~wpAny_bind (m:=Builtin.Tuple.tupleExact _) (wpAny_newObj_type (wpAny_bind (wpAny_pure (wpAny_pure \(_,rfl,wpAny_pure h)))) Lg)
  |~wpAny_bind (wpAny_bind (m:=Builtin.Tuple.tupleExact _) (wpAny_newObj_type (wpAny_pure (wpAny_pure \(_,rfl,wpAny_pure h))) Lg))
  |~wpAny_bind (wpAny_bind (m:=Builtin.Tuple.tupleExact _) (wpAny_newObj_type (wpAny_pure \(_,rfl,wpAny_pure h)) Lg))
end
end HT
namespace L2
open PySem PySem.Spec PyProof.Rows
A! TO:=St->Hp->(Option Int->Hp->Prop)->Prop
D! PO(X:Cx)(e:Option Expr)(t:TO):Prop:=
 ∀(pins:L!) (s:Shared) (σ:St) (H:Hp) (Q:Option Int->Hp->Prop),I!->t σ H Q->
  wpAny M! X.A (evalPart e X.env) (λu s'=>∃o H',Inv X pins σ H' s'/\IsPart u o/\Q o H') X.xe s
D! aqT:TO:=λ_ H Q=>Q none H
D! aqX(t:TE):TO:=λσ H Q=>t σ H λx H1=>∃i,x=.int i/\Q (some i) H1
section
variable{X:Cx}{e:Expr}{te:TE}{lo hi:Option Expr}{tl th:TO}{pos p2:Pos}
T! aoj:PO X none aqT:=by
 intro pins s σ H Q I h;rw[evalPart_none];~wpAny_pure \(none,H,I,.none,h)
T! aok(h:PE X e te):PO X (some e) (aqX te):=by
 intro pins s σ H Q I hw;rw[evalPart_some];r! bM (h pins s σ H _ I hw) λu s1 \(x,H1,I1,r1,q1)=>?_;o!⟨i,rfl,q⟩:=q1;o!⟨t,rfl⟩:=r1;~\(some i,H1,I1,.int i t,q)
D! tU(X:Cx)(r:V->Option Int->Option Int->Hp->VK->Prop):Prop:=
 ∀(pins:L!) (s:Shared) (σ:St) (H:Hp) (x:V) (v vl vu:Value) (lo hi:Option Int) (sl:Addr) (Q:VK),I!->RelV x v->s.heap.IsSliceOf sl vl vu .none->IsPart vl lo->IsPart vu hi->r x lo hi H Q->
  ∃T id,typeLookup (.type T) "__getitem__"=pure (some (.builtin id))/\s.TypeIs v T/\wpAny M! X.A (getItem v (.ref sl)) (EP X pins σ Q) X.xe s
T! tU.or{r r':V->Option Int->Option Int->Hp->VK->Prop}(h:tU X r)(h':tU X r'):tU X (λx lo hi H Q=>r x lo hi H Q\/r' x lo hi H Q):=by
 intro pins s σ H x v vl vu lo hi sl Q I rx hs pl pu q;rcases q with q|q;·~h pins s σ H x v vl vu lo hi sl Q I rx hs pl pu q
 ·~h' pins s σ H x v vl vu lo hi sl Q I rx hs pl pu q
D! tSl(r:V->Option Int->Option Int->Hp->VK->Prop)(te:TE)(tl th:TO):TE:=λσ H Q=>te σ H λx H1=>tl σ H1 λl H2=>th σ H2 λu H3=>r x l u H3 Q
T! an5{r:V->Option Int->Option Int->Hp->VK->Prop}(hr:tU X r)(he:PE X e te)(hl:PO X lo tl)(hu:PO X hi th):PE X (.Subscript e (.Slice lo hi none p2) pos) (tSl r te tl th):=by
 intro pins s σ H Q I h;r! Subscript_ (bM (he pins s σ H _ I h) λv s1 \(x,H1,I1,r1,q1)=>?_);r! wpAny_Slice (bM (hl pins s1 σ H1 _ I1 q1) λvl s2 \(l,H2,I2,pl,q2)=>bM (hu pins s2 σ H2 _ I2 q2) λvu s3 \(u,H3,I3,pu,q3)=>?_);rw[evalPart_none];r! wpAny_pure ?_;h! I4:Inv X pins σ H3 {s3 with heap:=s3.heap.push {cls:=.type "slice",data:=.fields #[vl,vu,.none]}}:=I3.kept (t':=s3.toks) λb ob q=>Heap.get?_push_of_some _ q;o!⟨T,id,hT,ht,hg⟩:=hr pins {s3 with heap:=s3.heap.push {cls:=.type "slice",data:=.fields #[vl,vu,.none]}} σ H3 x v vl vu l u s3.heap.objs.size Q I4 r1 (Heap.IsSliceOf.new ..) pl pu q3;show wpAny M! X.A (subscriptTail e (.Slice lo hi none p2) v (.ref s3.heap.objs.size)) (EP X pins σ Q) X.xe {s3 with heap:=s3.heap.push {cls:=.type "slice",data:=.fields #[vl,vu,.none]}};~tail_any (ops:=[.ref s3.heap.objs.size,v]) ht hT hg (by with_unfolding_all rfl)
D! vP(xs:List V)(lo hi:Option Int):List V:=(xs.drop (HT.cM xs.length 0 lo)).take (HT.cM xs.length xs.length hi - HT.cM xs.length 0 lo)
T! aaM(xs:List V)(lo hi:Option Int):(vP xs lo hi).length<=xs.length:=by
 u! vP;rw[List.length_take,List.length_drop];om
D! ao7(K:PySem.W.Frag):V->Option Int->Option Int->Hp->VK->Prop:=λx lo hi H Q=>∃a xs,x=.ref a/\lY K H a xs/\
 ¬(HT.cM xs.length 0 lo=0/\HT.cM xs.length xs.length hi=xs.length)/\∀p,H p=none->Q (.ref p) (upd H p (.tup (vP xs lo hi)))
T! aqm:tU X (ao7 X.K):=by
 intro pins s σ H x v vl vu lo hi sl Q I rx hs pl pu h;o!⟨a,xs,rfl,hx,hw,q⟩:=h;c! rx;o!⟨its,r,ht,hz⟩:=I.tuple hx;h! hlen:its.toArray.size=xs.length:=by rw[List.size_toArray];~r.length.symm
 r!\("tuple",_,PyProof.Rows.slot_tuple_getitem.lookup,ht.typeIs,?_);r! HT.ajr ht hs pl pu (by rw[hlen];~hw) ?_ (by rw[hlen];~hz);rw[hlen];r!\(.ref s.heap.objs.size,_,I.laid (t':=s.toks) (o:=.tup (vP xs lo hi)) (λb ob q=>Heap.get?_push_of_some _ q) n! ?_,rfl,q _ (I.hok.fresh n!));~\(Nat.le_trans (aaM xs lo hi) hz,_,(r.drop (HT.cM xs.length 0 lo)).take (HT.cM xs.length xs.length hi - HT.cM xs.length 0 lo),IsTup.new _ _)
end
end L2
namespace L2
open PySem PySem.Spec PyProof.Rows
D! uz(n:Nat)(i:Int):Option Nat:=if 0<=i then(if i<n then some i.toNat else none)else if -(n:Int)<=i then some (i+n).toNat else none
D! bN{α:Type}(xs:List α)(i:Int):Option α:=(uz xs.length i).bind λj=>xs[j]?
T! akq{n:Nat}{i:Int}{j:Nat}(h:uz n i=some j):seqIndex? i n=some j/\j<n/\ -(n:Int)<=i/\i<n:=by
 u! uz at h;by_cases h0:0<=i
 ·rw[if_pos h0]at h
  by_cases h1:i<n
  ·rw[if_pos h1]at h
   h! e:i.toNat=j:=Option.some.inj h;~\(by rw[seqIndex_of h0 h1,e],o?,o?,h1)
  ·rw[if_neg h1]at h;c! h
 ·rw[if_neg h0]at h
  by_cases h1: -(n:Int)<=i
  ·rw[if_pos h1]at h
   h! e:(i+n).toNat=j:=Option.some.inj h;~\(by rw[seqIndex_neg o? h1,e],o?,h1,o?)
  ·rw[if_neg h1]at h;c! h
T! PL{α:Type}{xs:List α}{i:Int}{v:α}(h:bN xs i=some v):∃j,seqIndex? i xs.length=some j/\xs[j]?=some v/\j<xs.length/\ -(xs.length:Int)<=i/\i<xs.length:=by
 u! bN at h;cases e:uz xs.length i with
 |none=>rw[e]at h;c! h
 |some j=>
  rw[e]at h;o!⟨h1,h2,h3,h4⟩:=akq e;~\(j,h1,h,h2,h3,h4)
T! vM{α:Type}{xs:List α}{j:Nat}{v:α}(h:xs[j]?=some v):bN xs (j:Int)=some v:=by
 h! hj:j<xs.length:=(List.getElem?_eq_some_iff.mp h).1;h! e:uz xs.length (j:Int)=some j:=by
  u! uz;rw[if_pos o?,if_pos o?];simp
 u! bN;rw[e];~h
D! Ph(b:Expr):Prop:=∀o i,subscripted b false o i=operate [o,i] (getItem o i)
D! rD(X:Cx)(r:R2):Prop:=
 ∀(value slice:Expr) (pins:L!) (s:Shared) (σ:St) (H:Hp) (x y:V) (v u:Value) (Q:VK),I!->RelV x v->RelV y u->r x y H Q->
  subscripted slice false v u=operate [v,u] (getItem v u)->wpAny M! X.A (subscriptTail value slice v u) (EP X pins σ Q) X.xe s
D! xx(X:Cx)(id:String)(r:V->List V->Hp->VK->Prop):Prop:=
 ∀(pins:L!) (s:Shared) (σ:St) (H:Hp) (x:V) (xs:List V) (v:Value) (us:List Value) (Q:VK),I!->RelV x v->Vals xs us->r x xs H Q->
  wpAny M! X.A (call (.builtin id) (v::us)) (EP X pins σ Q) X.xe s
section
variable{X:Cx}{a b:Expr}{ta tb:TE}{pos:Pos}
T! rD.or{r r':R2}(h:rD X r)(h':rD X r'):rD X (λx y H Q=>r x y H Q\/r' x y H Q):=by
 intro value slice pins s σ H x y v u Q I rx ry q hs;rcases q with q|q;·~h value slice pins s σ H x y v u Q I rx ry q hs
 ·~h' value slice pins s σ H x y v u Q I rx ry q hs
T! ac8{r:R2}(hr:rD X r)(ha:PE X a ta)(hb:PE X b tb)(hs:Ph b):PE X (.Subscript a b pos) (NK r ta tb):=by
 intro pins s σ H Q I h;~Subscript_ (Qg ha hb I h λv u s2 x y H2 I2 rx ry q=>hr a b pins s2 σ H2 x y v u Q I2 rx ry q (hs _ _))
D! aeE(K:PySem.W.Frag):R2:=λx y H Q=>∃p xs i v,x=.ref p/\y=.int i/\jy K H p xs/\bN xs i=some v/\Q v H
D! aeG(K:PySem.W.Frag):R2:=λx y H Q=>∃p xs i v,x=.ref p/\y=.int i/\lY K H p xs/\bN xs i=some v/\Q v H
D! aeF:R2:=λx y H Q=>∃z i c,x=.str z/\y=.int i/\z.length<=sizeLine/\bN z.cps.toList i=some c/\Q (.str \(#[c])) H
T! akr:rD X (aeE X.K):=by
 intro value slice pins s σ H x y v u Q I rx ry h hs;o!⟨p,xs,i,z,rfl,rfl,hq,he,q⟩:=h;c! rx;o!⟨t,rfl⟩:=ry;o!⟨its,r,pl,hz⟩:=I.list hq;o!⟨j,h1,h2,h3,h4,h5⟩:=PL he;o!⟨w,ew,lQ⟩:=r.get h2;h! hl:=r.length;h! hn:=Bg;h! fin:EP X pins σ Q w s:=\(z,H,I,lQ,q);by_cases h0:0<=i
 ·h! hj:i.toNat=j:=by
   rw[seqIndex_of h0 h5]at h1;~Option.some.inj h1
  ~item_listR pl.isList h0 o? (by rw[hj];simpa using ew) fin hs
 ·h! hj:(i+(its.toArray.size:Int)).toNat=j:=by
   rw[seqIndex_neg o? h4]at h1;rw[List.size_toArray,<-hl];~Option.some.inj h1
  ~subscriptTail_builtinR (x:=w) pl.isList.typeIs slot_list_getitem.lookup
    (wpAny_getItem_list_neg (Q:=λr s'=>r=w/\EP X pins σ Q r s') pl.isList o? (by rw[List.size_toArray]<;>om) o? (by rw[hj];simpa using ew) \(rfl,fin)) hs
T! aku:rD X (aeG X.K):=by
 intro value slice pins s σ H x y v u Q I rx ry h hs;o!⟨p,xs,i,z,rfl,rfl,hq,he,q⟩:=h;c! rx;o!⟨t,rfl⟩:=ry;o!⟨its,r,pl,hz⟩:=I.tuple hq;o!⟨j,h1,h2,h3,h4,h5⟩:=PL he;o!⟨w,ew,lQ⟩:=r.get h2;h! hl:=r.length;h! hn:=Bg;h! fin:EP X pins σ Q w s:=\(z,H,I,lQ,q)
 ~subscriptTail_builtinR (x:=w) pl.typeIs slot_tuple_getitem.lookup
   (getItem_tuple (j:=j) (Q:=λr s'=>r=w/\EP X pins σ Q r s') pl o? o? (by rw[List.size_toArray,<-hl];~h1) (by simpa using ew) \(rfl,fin)) hs
T! akt:rD X aeF:=by
 intro value slice pins s σ H x y v u Q I rx ry h hs;o!⟨z,i,c,rfl,rfl,hz,he,q⟩:=h;o!⟨t,rfl⟩:=rx;o!⟨t',rfl⟩:=ry;o!⟨j,h1,h2,h3,h4,h5⟩:=PL he;h! hl:z.cps.toList.length=z.length:=by simp[Str.length]
 rw[hl]at h1 h4 h5;h! hn:=Bg;~tail_any (typeIs_str s z t) slot_str_getitem.lookup (getItem_str (c:=c) (by
  h! e1:decide (i< -(2^63:Int))=false:=decide_eq_false o?;h! e2:decide (i≥2^63)=false:=decide_eq_false o?;rw[e1,e2,Bool.or_false]) (by rw[h1];simpa using h2) \(.str \(#[c]),H,I.tok _,\(_,rfl),q)) hs
D! rIx(K:PySem.W.Frag):R2:=λx y H Q=>aeE K x y H Q\/aeG K x y H Q\/aeF x y H Q
T! aks:rD X (rIx X.K):=akr.or (aku.or akt)
T! aqp(lo hi:Option Int)(n:Nat):(sliceBounds lo hi none n).1=((HT.cM n 0 lo:Nat):Int)/\(sliceBounds lo hi none n).2.1=((HT.cM n n hi:Nat):Int)/\(sliceBounds lo hi none n).2.2=1:=by
 r!\(?_,?_,rfl)
 ·cases lo with
  |none=>simp[sliceBounds,HT.cM]
  |some i=>
   S![sliceBounds,HT.cM,Option.getD_none,show(1:Int)>0 by decide,if_true];by_cases h:i<0;·S![h,if_true]<;>om
   ·S![h,if_false]<;>om
 ·cases hi with
  |none=>simp[sliceBounds,HT.cM]
  |some i=>
   S![sliceBounds,HT.cM,Option.getD_none,show(1:Int)>0 by decide,if_true];by_cases h:i<0;·S![h,if_true]<;>om
   ·S![h,if_false]<;>om
T! aqo(its:List Value)(lo hi:Option Int):slicePick its.toArray lo hi none=((its.drop (HT.cM its.length 0 lo)).take (HT.cM its.length its.length hi - HT.cM its.length 0 lo)).toArray:=by
 o!⟨h1,h2,h3⟩:=aqp lo hi its.toArray.size;u! slicePick;rw[h1,h2,h3];S![sliceRange_one,pick_run,List.size_toArray]<;>rfl
D! ao5(K:PySem.W.Frag):V->Option Int->Option Int->Hp->VK->Prop:=λx lo hi H Q=>∃a xs,x=.ref a/\jy K H a xs/\∀p,H p=none->Q (.ref p) (upd H p (.lst (vP xs lo hi)))
T! aqk:tU X (ao5 X.K):=by
 intro pins s σ H x v vl vu lo hi sl Q I rx hs pl pu h;o!⟨a,xs,rfl,hx,q⟩:=h;c! rx;o!⟨its,r,ht,hz⟩:=I.list hx;h! hlen:=r.length;r!\("list",_,slot_list_getitem.lookup,ht.isList.typeIs,?_);r! wpAny_getItem_list_slice ht.isList hs pl pu .none (by simp) ?_ (by rw[List.size_toArray]<;>om);rw[aqo,<-hlen];r!\(.ref s.heap.objs.size,_,I.laid (t':=s.toks) (o:=.lst (vP xs lo hi)) (λb ob q=>Heap.get?_push_of_some _ q) n! ?_,rfl,q _ (I.hok.fresh n!));~\(Nat.le_trans (aaM xs lo hi) hz,_,0,(r.drop (HT.cM xs.length 0 lo)).take (HT.cM xs.length xs.length hi - HT.cM xs.length 0 lo),Heap.get?_push_size _ rfl)
T! aay:jF X (.builtin "len") (λxs H Q=>∃p ys,xs=[.ref p]/\(jy X.K H p ys\/lY X.K H p ys)/\Q (.int ys.length) H):=by
 intro pins s σ H xs us Q I r h;o!⟨p,ys,rfl,hq,q⟩:=h;o!⟨u,rfl,rx⟩:=vals1 r;c! rx;h! hn:=Bg;rcases hq with hq|hq
 ·o!⟨its,r',pl,hz⟩:=I.list hq
  h! hlen:=r'.length;~Calls.call_len_list pl.isList (by S![List.size_toArray]<;>om) \(.int ys.length,H,I.tok _,\(s.toks+1,by rw[List.size_toArray,hlen]),q)
 ·o!⟨its,r',pl,hz⟩:=I.tuple hq
  h! hlen:=r'.length;~len_tuple pl (by S![List.size_toArray]<;>om) \(.int ys.length,H,I.tok _,\(s.toks+1,by rw[List.size_toArray,hlen]),q)
T! aij:jF X (.builtin "len") (λxs H Q=>∃z,xs=[.str z]/\z.length<=sizeLine/\Q (.int z.length) H):=by
 intro pins s σ H xs us Q I r h;o!⟨z,rfl,hz,q⟩:=h;o!⟨u,rfl,t,rfl⟩:=vals1 r;h! hn:=Bg;~len_str o? \(.int z.length,H,I.tok _,\(_,rfl),q)
T! jF.or{f:Value}{r r':List V->Hp->VK->Prop}(h:jF X f r)(h':jF X f r'):jF X f (λxs H Q=>r xs H Q\/r' xs H Q):=by
 intro pins s σ H xs us Q I rs q;rcases q with q|q;·~h pins s σ H xs us Q I rs q
 ·~h' pins s σ H xs us Q I rs q
D! Oc(K:PySem.W.Frag)(T:String)(x:V)(H:Hp):Prop:=match x with
 |.str _=>T="str"
 |.int _=>T="int"
 |.ref p=>(T="list"/\∃xs,jy K H p xs)\/(T="tuple"/\∃o,K.lookup p=some o/\o.cls=.type "tuple"/\o.dict=none)\/
   (T="dict"/\((∃kvs,H p=some (.dK kvs))\/∃kvs,H p=some (.dT kvs)))\/(T="set"/\∃S n,H p=some (.set S n))
 |_=>False
T! afW{pins:L!}{σ:St}{H:Hp}{s:Shared}{T:String}{x:V}{v:Value}(I:I!)(r:RelV x v)(ty:Oc X.K T x H):
    s.TypeIs v T/\∀a,v=.ref a->∃ob,s.heap.get? a=some ob/\ob.dict=none:=by
 cases x with
 |str z=>
  o!⟨t,rfl⟩:=r;cases(show T="str" from ty);~\(typeIs_str s z t,λ_ e=>nomatch e)
 |int i=>
  o!⟨t,rfl⟩:=r;cases(show T="int" from ty);~\(typeIs_int s i t,λ_ e=>nomatch e)
 |ref p=>
  c! r;rcases ty with⟨rfl,xs,hq⟩|⟨rfl,o,hk,hc,hd⟩|⟨rfl,hk⟩|⟨rfl,S,n,hk⟩
  ·o!⟨its,_,pl,_⟩:=I.list hq
   r!\(pl.isList.typeIs,λa e=>?_);c! e;o!⟨o,n,e,c,hd,_⟩:=pl;~\(o,e,hd)
  ·r!\(\(o,I.eY p o hk,hc),λa e=>?_)
   c! e;~\(o,I.eY _ o hk,hd)
  ·h! z:∃o,s.heap.get? p=some o/\o.ExactDict:=by
    rcases hk with⟨kvs,hk⟩|⟨kvs,hk⟩
    ·o!⟨_,_,_,_,o,_,_,e,ex,_⟩:=I.hok p _ hk
     ~\(o,e,ex)
    ·o!⟨_,_,_,_,o,_,_,e,ex,_⟩:=I.hok p _ hk
     ~\(o,e,ex)
   o!⟨o,e,ex⟩:=z;r!\(\(o,e,ex.1),λa e2=>?_);c! e2;~\(o,e,ex.2.1)
  ·o!⟨o,_,_,_,e,ex,_⟩:=I.hok p _ hk
   r!\(\(o,e,ex.1),λa e2=>?_);c! e2;~\(o,e,ex.2.1)
 |_=>~False.elim ty
D! aqG(K:PySem.W.Frag)(T:String)(r:V->List V->Hp->VK->Prop)(to:TE):TE:=λσ H Q=>to σ H λx H1=>Oc K T x H1/\r x [] H1 Q
D! tBM(K:PySem.W.Frag)(T:String)(r:V->List V->Hp->VK->Prop)(to:TE)(t:TA):TE:=λσ H Q=>to σ H λx H1=>Oc K T x H1/\t σ H1 λxs H2=>r x xs H2 Q
variable{o e:Expr}{es:List Expr}{to:TE}{t:TA}{name:Str}{apos cpos:Pos}{T id:String}{r:V->List V->Hp->VK->Prop}
T! anL(pa:PlainAttrs T)(slot:Slot T name id)(hty:typeOf (.builtin id)=pure (.type "method_descriptor"))(hm:xx X id r)(ho:PE X o to)
    (hbase:attributeBase o name X.env (eval o X.env)=eval o X.env:=by rfl)(hline:(apos.endLine==cpos.line)=true:=by rfl):PE X (.Call (.Attribute o name apos) [] [] cpos) (aqG X.K T r to):=by
 intro pins s σ H Q I h;r! wpAny_Call_method0_late hbase hline (bM (ho pins s σ H _ I h) λv s1 \(x,H1,I1,r1,ty,q1)=>?_);o!⟨h1,h2⟩:=afW I1 r1 ty;~\(T,id,pa,slot,hty,h1,h2,Calls.callWith_builtin rfl (PySem.evalArgs_none (hm pins s1 σ H1 x [] v [] Q I1 r1 .nil q1)))
T! ac6(pa:PlainAttrs T)(slot:Slot T name id)(hty:typeOf (.builtin id)=pure (.type "method_descriptor"))(hm:xx X id r)(ho:PE X o to)(ha:PA X (e::es) t)
    (hbase:attributeBase o name X.env (eval o X.env)=eval o X.env:=by rfl)
    (hfew:((backTo cpos (starEach (e::es) X.env)).all (λx=>!x.1)&&(backToKw cpos (keywordEach [] X.env)).all (λx=>x.1.isSome)
      &&decide ((e::es).length+([]:List Keyword).length+(if([]:List Keyword).isEmpty then 0 else 1)<30))=true:=by rfl)
    (hline:(apos.endLine==cpos.line)=true:=by rfl)(hs:W!:=by rfl)(hplain:(backTo cpos (starEach es X.env)).any (·.1)=false:=by rfl):
    PE X (.Call (.Attribute o name apos) (e::es) [] cpos) (tBM X.K T r to t):=by
 intro pins s σ H Q I h;r! wpAny_Call_method_late hbase hfew hline rfl (bM (ho pins s σ H _ I h) λv s1 \(x,H1,I1,r1,ty,q1)=>?_);o!⟨h1,h2⟩:=afW I1 r1 ty;r!\(T,id,pa,slot,hty,h1,h2,?_);h! hA:=ha cpos pins s1 σ H1 _ I1 q1;rw[hs]at hA⊢;r! Calls.callWith_builtin (by show(false||(backTo cpos (starEach es X.env)).any (·.1))=false;rw[hplain]<;>rfl) (Calls.evalArgs_plain ?_);~bM hA λus s2 \(vs,H2,I2,r2,q2)=>hm pins s2 σ H2 x vs v us Q I2 r1 r2 q2
end
end L2
namespace L2
open PySem PySem.Spec PyProof.Rows
D! ZK(X:Cx)(id:String)(r:V->List V->Hp->VK->Prop):Prop:=
 ∀(pins:L!) (s:Shared) (σ:St) (H:Hp) (x:V) (xs:List V) (v:Value) (us:List Value) (Q:VK),I!->RelV x v->Vals xs us->r x xs H Q->
  wpAny M! X.A (call (.builtin id) (v::us)) (EP X pins σ Q) X.xe s
T! Vals.one:∀{x:V} {us:List Value},Vals [x] us->∃u,us=[u]/\RelV x u
 |_,_,.cons r .nil=>\(_,rfl,r)
T! Vals.zero:∀{us:List Value},Vals [] us->us=[]
 |_,.nil=>rfl
T! Vals.dropLast{xs:List V}{us:List Value}(h:Vals xs us):Vals xs.dropLast us.dropLast:=by
 induction h with
 |nil=>~.nil
 |cons r t ih=>
  cases t with
  |nil=>~.nil
  |cons q t'=>~.cons r ih
T! aja{α:Type}(l:List α):l.eraseIdx (l.length - 1)=l.dropLast:=by
 induction l with
 |nil=>rfl
 |cons a r ih=>
  cases r with
  |nil=>rfl
  |cons b r=>
   h! e:(a::b::r).length - 1=((b::r).length - 1)+1:=by
    h! h1:(a::b::r).length=r.length+2:=rfl;h! h2:(b::r).length=r.length+1:=rfl;om
   rw[e,List.eraseIdx_cons_succ,ih];all_goals rfl
section
variable{X:Cx}{pins:L!}{σ:St}{H:Hp}{s:Shared}{l b:Addr}{xs ys zs:List V}
T! Inv.acp{its its':List Value}{n:Nat}{f:Array Value->Array Value}{t':Nat}(I:I!)(hH:H l=some (.lst xs))
    (e:s.heap.get? l=some {cls:=.type "list",data:=.seq its.toArray n})(hf:f its.toArray=its'.toArray)(hv:Vals ys its')(hz:ys.length<=sizeLine):
    Inv X pins σ (upd H l (.lst ys)) {s with heap:=s.heap.update l (Obj.mapSeq f),toks:=t'}:=by
 h! q:=PySem.IsL.update e f;rw[hf]at q;r! I.write (x:=l) (e:=l) (by rw[hH];~trivial) (.inl rfl) (λb' u hb hu=>(Heap.get?_update_other s.heap (Obj.mapSeq f) (Ne.symm hb)).trans hu) \(_,q) ?_;~\(hz,its',_,hv,q)
T! Inv.aci{its:List Value}{t':Nat}(I:I!)(hv:Vals ys its)(hz:ys.length<=sizeLine):
    Inv X pins σ (upd H s.heap.objs.size (.lst ys)) {s with heap:=s.heap.push {cls:=.type "list",data:=.seq its.toArray},toks:=t'}:=
 I.laid (λ_ _ q=>Heap.get?_push_of_some _ q) n! \(hz,its,0,hv,Heap.get?_push_size _ rfl)
T! Inv.fresh(I:I!):H s.heap.objs.size=none:=I.hok.fresh n!
T! Inv.acr(I:I!)(hH:H l=some (.lst xs)):xs.length<=sizeLine/\∃(its:List Value) (n:Nat),Vals xs its/\xs.length=its.length/\s.heap.get? l=some {cls:=.type "list",data:=.seq its.toArray n}:=by
 o!⟨z,its,n,r,e⟩:=I.hok l _ hH;~\(z,its,n,r,r.length,e)
end
section
variable{X:Cx}
D! ao1:V->List V->Hp->VK->Prop:=λx vs H Q=>∃l xs y,x=.ref l/\vs=[y]/\H l=some (.lst xs)/\xs.length<sizeLine/\Q .non (upd H l (.lst (xs++[y])))
T! acF:ZK X "list.append" ao1:=by
 intro pins s σ H x vs v us Q I rx rv h;o!⟨l,xs,y,rfl,rfl,hH,hz,q⟩:=h;c! rx;o!⟨u,rfl,ru⟩:=rv.one;o!⟨z,its,n,r,hl,e⟩:=I.acr hH;r! call_meets F.slot_list_append \(_,e,rfl) F.entry_list_append (F.args_list_append_2 _ _) (PySem.list_append l its.toArray n u (by rw[List.size_toArray];om)) \(e,?_);r!\(.non,_,I.acp (its':=its++[u]) hH e (by simp) (r.append (.cons ru .nil)) ?_,rfl,q);rw[List.length_append,List.length_singleton];om
D! ao4:V->List V->Hp->VK->Prop:=λx vs H Q=>∃l xs y,x=.ref l/\vs=[]/\H l=some (.lst xs)/\xs[xs.length - 1]?=some y/\Q y (upd H l (.lst xs.dropLast))
T! alI:ZK X "list.pop" ao4:=by
 intro pins s σ H x vs v us Q I rx rv h;o!⟨l,xs,y,rfl,rfl,hH,hy,q⟩:=h;c! rx;h! hus:=rv.zero;subst hus;o!⟨z,its,n,r,hl,e⟩:=I.acr hH;o!⟨u,hu,ru⟩:=r.get hy;h! hy':its.toArray[its.toArray.size - 1]?=some u:=by
  show its.toArray[its.length - 1]?=some u;rw[<-Array.getElem?_toList,<-hl];~hu
 r! call_meets F.slot_list_pop \(_,e,rfl) F.entry_list_pop (F.args_list_pop_1 _) (MeetsSeq.list_pop_last l its.toArray n u hy' (by rw[List.size_toArray];om)) \(e,?_);r!\(y,_,I.acp (its':=its.dropLast) hH e ?_ r.dropLast ?_,ru,q)
 ·show its.toArray.eraseIdxIfInBounds (its.toArray.size - 1)=its.dropLast.toArray
  rw[List.size_toArray,List.eraseIdxIfInBounds_toArray,aja]
 ·rw[List.length_dropLast]
  om
end
section
variable{prog:Program}{w:World}{A:Around}{E:B!}{s:Shared}
end
section
variable{X:Cx}
end
end L2
namespace Y0
open PySem PySem.W PySem.Calls PyProof.Rows
T! akk{P:Params}{h:Heap}:∀(ns:List Int) (vs:List Value),WellAll P h vs (ns.map WData.int)->IntsAre vs ns:=by
 intro ns;induction ns with
 |nil=>
  intro vs w;rw[List.map_nil]at w;c! w;~.nil
 |cons n ns ih=>
  intro vs w;rw[List.map_cons]at w;cases w with
  |cons a b=>
   c! a;~.cons _ _ (ih _ b)
T! apZ{l:OpenLaw}{n:Nat}(hn:l.most=some n){P:Params}{h:Heap}{args:List WData}{vals:List Value}
    (hpre:l.row.toRowW.claim.pre args=true)(hwl:WellAll P h vals args):
    ∃a vs ns,vals=[Value.ref a]/\args=[WData.list (ns.map WData.int)]/\h.get? a=some {cls:=.type "list",data:=.seq vs.toArray}/\IntsAre vs ns/\ns.length<=n:=by
 h! hsh:WShape.hasAll [] args [.list .int]=true:=(pre_splitW hpre).1;h! hc:l.pre.holds [] {args:=args}=true:=(pre_splitW hpre).2;o!⟨d,r,rfl,h1,h2⟩:=hasAllW_cons hsh;o! rfl:=hasAllW_nil h2;o!⟨xs,rfl,h3⟩:=hasW_list h1;o!⟨ns,rfl⟩:=items_int h3;h! hlen:ns.length<=n:=by
  u! OpenLaw.pre at hc;h! h4:(WTm.not (.lt (.lit (.int (n:Int))) (.len (.arg 0)))).holds [] {args:=[.list (ns.map .int)]}=true:=by
   h! h4:=(holds_andW hc).1;rw[hn]at h4;~h4
  h! h5:=condW_of h4 (w_not (w_lt w_lit (w_len_list (w_arg rfl))));rw[List.length_map]at h5;r! Nat.le_of_not_lt λq=>?_;h! q':(n:Int)<((ns.length:Nat):Int):=by om
  first
   |(rw[decide_eq_true q']at h5;~absurd h5 d?)
   |(simp at h5;om)
 cases hwl with
 |cons w1 w2=>
  c! w2;cases w1 with
  |list ho hall=>~\(_,_,ns,rfl,rfl,ho,akk ns _ hall,hlen)
T! aol(l:OpenLaw)(args:List WData):l.row.toRowW.claim.post args (.bool true) args=true:=
 postW_of (r:=l.row.toRowW) (X:=(true==true))
  (show WShape.has [] (.bool true) .bool=true by first|rfl|decide|simp[WShape.has,WShape.arms,WShape.armsAll])
  (show(WTm.eq .res (.lit (.bool true))).value [] {args:=args,res:=some (.bool true),after:=args}=some (.bool (true==true))from w_eq_bool (w_res rfl) w_lit) rfl
T! ahJ{l:OpenLaw}{n:Nat}{q:Program}{loose:List Str}{XP:(G!)->Heap->Prop}{YP:World->Heap->Prop}{d:DefRec}
    (hn:l.most=some n)(hdf:d.params.defaults=[])
    (call:∀(w:World) (s₀ s₁:Shared) (mg mb:G!) (fa:Addr) (o:Obj) (pm cd doc:Value) (a:Addr) (vs:List Value) (ns:List Int),
      Ground q loose [] XP w s₀ mg mb s₁.heap->YP w s₁.heap->
      s₁.heap.get? fa=some o->o.data=.func (docDef d.name d.params d.body d.scope pm cd doc)->s₁.heap.CodeRec cd d.name->mg d.name=some (.ref fa)->
      s₁.heap.get? a=some {cls:=.type "list",data:=.seq vs.toArray}->IntsAre vs ns->ns.length<=n->s₁.gens=#[]->
      codeAny (model l.prog w) callerA (.call (.ref fa) \([.ref a],[])) (λr s'=>r=.ok (.ret (.bool true))/\OldK s₁.heap s'.heap/\s'.os=s₁.os/\AllBare s'.gens) s₁):
    WalkO q loose XP YP l.row.toRowW d [] (λf vs=>PySem.call f vs):=by
 intro w s₀ s₁ mg mb G Y fa o pm cd doc dV kV ho hd hcd hD Gk hg args vals as hpre asj hrd hwl hlo;obtain rfl:dV=.none:=Dflts.none hD hdf;obtain rfl:kV=.none:=Dflts.noKw hD;o!⟨a,vs,ns,rfl,rfl,La,hints,hlen⟩:=apZ hn hpre hwl;r! enter_call (codeAny_mono (call w s₀ s₁ mg mb fa o pm cd doc a vs ns G Y ho (fd_plain hd) hcd Gk La hints hlen hg) λr s' hq=>?_);o!⟨rfl,h2,h3,h4⟩:=hq;~\(.inl \(.bool true,.bool true,[],rfl,λ_=>rfl,.bool true,aol l _,λ_=>\(List.Pairwise.nil,λ_ hm=>(nomatch hm))),h2,h3,h4)
section
variable{prog:Program}{w:World}{A:Around}{E:B!}{s:Shared}{K:Frag}
end
end Y0
namespace L2
open PySem PySem.Spec PyProof.Rows
T! agd:∀{vs:List Value} {ns:List Int},IntsAre vs ns->Vals (ns.map V.int) vs
 |_,_,.nil=>.nil
 |_,_,.cons n t h=>.cons \(t,rfl) (agd h)
end L2
namespace L2
open PySem PySem.Spec PyProof.Rows
end L2
namespace L2
open PySem PySem.Spec PyProof.Rows
D! inClass(s:Stmt)(j:Nat):Stmt:=match s with
 |.ClassDef _ _ _ body _ _ _ _ _ _ _=>body.getD j (.Pass \(0,0,0,0))
 |_=>.Pass \(0,0,0,0)
D! fV(s:Stmt):Arguments:=match s with
 |.FunctionDef _ a _ _ _ _ _ _ _ _=>a
 |_=>{posonlyargs:=[],args:=[],vararg:=none,kwonlyargs:=[],kw_defaults:=[],kwarg:=none,defaults:=[]}
D! d7(s:Stmt):List Stmt:=match s with
 |.FunctionDef _ _ b _ _ _ _ _ _ _=>b
 |_=>[]
D! bf(s:Stmt):Scope:=match s with
 |.FunctionDef _ _ _ _ _ _ sc _ _ _=>sc
 |_=>{kind:=.function,names:=[],isGenerator:=false,isCoroutine:=false}
A! mL:lW:=λ_ _ _ _ _ _=>False
A! E0:XK:=λ_ _ _=>False
structure cF(K:PySem.W.Frag)(x qual:Str)(st:Stmt)(f:Addr)(fd:FuncData):Prop where
 ex:∃(oc:Value) (od:Option Addr) (kV doc pm:Value) (an:Option Addr) (cdv ct:Value) (osl:Array (Option Value)),
  fd=PySem.W.fnOf x qual (fV st) (d7 st) (bf st) .none kV doc pm an cdv ct/\K.lookup f=some \(oc,od,.func fd,osl)/\PySem.W.codeIn K cdv qual=true
 kp:PySem.W.keepIn K (.ref f)=true
section
variable{P:Program}{w:World}{K:PySem.W.Frag}{mg:G!}{base:Heap}
T! cF.ok{x qual:Str}{st:Stmt}{f:Addr}{fd:FuncData}{N ps:List Str}{k:Nat}{sp:Sp}(F:cF K x qual st f fd)(S:b7 N ps (bf st))(len:∀vs H Q E,sp vs H Q E->vs.length=ps.length)
    (hbody:∀(cdv:Value) (A:Around) (outer:List Env) (s:Shared) (H:Hp) (vs:List V) (Q:VK) (E:XK),dI k (A.deeper (envOfC qual (bf st) s.heap.objs.size f cdv))->sp vs H Q E->
      ∃t,lJ (jK mL P w K mg base N qual (bf st) f cdv A outer s H E).sO (d7 st) t/\t {nx:=λ_ H'=>Q .non H',rt:=Q} (start N vs) H):fM P w K mg base mL (k+1) f fd ps sp:=by
 o!⟨oc,od,kV,doc,pm,an,cdv,ct,osl,rfl,lk,hcd⟩:=F.ex;r! Q9 lk hcd S len λA outer s H vs Q E hr hsp=>?_;o!⟨t,h,q⟩:=hbody cdv A outer s H vs Q E hr hsp;~\(t,h.sO,q)
T! cF.binds{x qual:Str}{st:Stmt}{f:Addr}{fd:FuncData}{ps:List Str}(F:cF K x qual st f fd)
    (h:∀(kV doc pm:Value) (an:Option Addr) (cdv ct:Value) (us:List Value),us.length=ps.length->bindArgs (PySem.W.fnOf x qual (fV st) (d7 st) (bf st) .none kV doc pm an cdv ct) \(us,[])=pure (ps.zip us)):Binds K fd ps []:=by
 o!⟨oc,od,kV,doc,pm,an,cdv,ct,osl,rfl,lk,hcd⟩:=F.ex;~.all (h kV doc pm an cdv ct)
T! Rf{x qual:Str}{st:Stmt}{f:Addr}{oc:Value}{od an:Option Addr}{osl:Array (Option Value)}{kV doc pm cdv ct:Value}(l:K.lookup f=some \(oc,od,.func (PySem.W.fnOf x qual (fV st) (d7 st) (bf st) .none kV doc pm an cdv ct),osl))
    (c:PySem.W.codeIn K cdv qual=true)(k:PySem.W.keepIn K (.ref f)=true):cF K x qual st f (PySem.W.fnOf x qual (fV st) (d7 st) (bf st) .none kV doc pm an cdv ct):=\(\(oc,od,kV,doc,pm,an,cdv,ct,osl,rfl,l,c),k)
end
section
variable{X:Cx}
end
T! qI{A B:Prop}(h:B):if false=true then A else B:=by
 rw[if_neg Bool.false_ne_true];~h
T! qJ{A B:Prop}(h:A):if true=true then A else B:=by
 rw[if_pos rfl];~h
D! gr(H H':Hp):Prop:=∀b o,H b=some o->H' b=some o
end L2
namespace Fx
open PySem
T! aaV(o:Obj)(f:Array Value->Array Value):(o.mapFields f).dict=o.dict:=by
 rcases o with⟨c,d,dt,sl⟩;c! dt<;>rfl
D! Dk(h:Heap)(e:Addr)(d:Option Addr):Prop:=∀dx,d=some dx->∃oe,h.get? e=some oe/\oe.dict=some dx
D! mO(B:Heap)(l:List Env)(e:Addr)(cls:Value)(d:Option Addr)(h:Heap):Prop:=
 (∃a0,Heap.FlyingW B l e cls a0 h)/\Dk h e d
D! Jf(B:Heap)(l:List Env)(e:Addr)(cls:Value)(d:Option Addr)(L:Addr)(h:Heap):Prop:=
 (∃a0,Heap.HeldW B l e cls a0 L h)/\Dk h e d
T! aaZ{h:Heap}{e b:Addr}{d:Option Addr}{f:Array Value->Array Value}{o:Obj}{vs:Array Value}(hb:h.get? b=some o)(hd:o.data=.fields vs)(k:Dk h e d):
    Dk (h.update b (Obj.mapFields f)) e d:=by
 intro dx hx;o!⟨oe,h1,h2⟩:=k dx hx;by_cases q:b=e
 ·subst q
  rw[hb]at h1;c! h1;~\(_,Heap.get?_update_self _ hb (Obj.isFreed_of_fields (Obj.data_mapFields hd f)),by rw[aaV];~h2)
 ·~\(oe,by rw[Heap.get?_update_other _ _ q];~h1,h2)
section
variable{M:Model}{A:Around}{E:B!}{s:Shared}{B:Heap}{env:Env}{outer l:List Env}{L e:Addr}{cls:Value}{d:Option Addr}{Q:Unit->Shared->Prop}
T! aa6{oe:Obj}{vs:Array Value}{head a0:Value}{more:Bool}(hfr:A.frames=some (env::outer))(ff:s.heap.FunFrames B (env::outer))(hf:env.frame=some L)
    (he:s.heap.get? e=some oe)(st:B.StaysIn s.heap)(fe:B.get? e=none)(hd:oe.data=.fields vs)(hz:1<vs.size)(h0:vs[0]?=some a0)(dk:Dk s.heap e d)
    (hQ:∀h1,Jf B (env::outer) e oe.cls d L h1->s.heap.UpToSlots h1->Q () {s with heap:=h1}):
    wpAny M A (do
     let fr<-frameOf env
     let at_<-entryPlaceOf L more
     let tb<-EntryCells.newEntry head fr .none (rawInt L) .none at_
     setField (.ref e) 1 tb) Q E s:=by
 h! ne:e∉(env::outer).filterMap (·.frame):=λz=>by
  o!⟨_,o2,g1,g2⟩:=ff.mem z;rw[he]at g1;c! g1;~g2 vs hd
 r! wpAny_bind (wpAny_frameOf_fun hfr ff hf λh2 so=>?_);r! wpAny_bind (wpAny_entryPlaceOf λplaces ok=>?_);u! EntryCells.newEntry newFields;r! wpAny_bind (wpAny_newObj_type ?_ (ok.sizeOk5 _ _ _ _ _));h! he2:h2.get? e=some oe:=by rw[so.2.1 e ne];~he
 h! st2:B.StaysIn h2:=λb o q=>by
  rw[so.2.1 b λz=>by rw[(ff.mem z).1]at q;cases q];~st b o q
 generalize hO:({cls:=.type "traceback",dict:=none,data:=.fields ([head,.ref L,.none,rawInt L,.none]++(if places.isEmpty then List.replicate 6 Value.none else places)).toArray}:Obj)=HN;h! he3:(h2.push HN).get? e=some oe:=Heap.get?_push_of_some _ he2;r! wpAny_setField he3 hd hz (hQ _ ?_ ?_)
 all_goals
  h! nT:h2.objs.size≠e:=Nat.ne_of_gt (Heap.lt_size he2);h! keep:∀b o,b≠e->h2.get? b=some o->((h2.push HN).update e (Obj.mapFields (·.setIfInBounds 1 (Value.ref h2.objs.size)))).get? b=some o:=λb o nb hb=>by
   rw[Heap.get?_update_other _ _ (Ne.symm nb)];~Heap.get?_push_of_some _ hb
  h! wz:∀b o,s.heap.get? b=some o->(∀ws,o.data≠.fields ws)->b≠e:=λb o hb nf z=>by
   subst z;rw[he]at hb;c! hb;~nf vs hd
 ·h! hd4:=Obj.data_mapFields hd (·.setIfInBounds 1 (Value.ref h2.objs.size))
  h! he4:=Heap.get?_update_self (Obj.mapFields (·.setIfInBounds 1 (Value.ref h2.objs.size))) he3 (Obj.isFreed_of_fields hd4);h! hT4:((h2.push HN).update e (Obj.mapFields (·.setIfInBounds 1 (Value.ref h2.objs.size)))).get? h2.objs.size=some HN:=by
   rw[Heap.get?_update_other _ _ (Ne.symm nT)];~Heap.get?_push_size h2 (by rw[<-hO];rfl)
  r!\(\(a0,λb o q=>keep b o (λz=>by rw[z,fe]at q;c! q) (st2 b o q),fe,ff.of_keeps λb o hb nf=>?_,?_),λdx hx=>?_)
  ·o!⟨sl,z⟩:=so.2.2 b o hb
   ~\(_,keep b _ (wz b o hb nf) z,rfl)
  ·r!\(_,_,h2.objs.size,HN,_,he4,\(Obj.cls_mapFields _ _,?_),hd4,by simp[hz],st2.fresh,nT,hT4,by rw[<-hO],?_)
   ·rw[Array.getElem?_setIfInBounds_ne d?];~h0
   ·rcases ok with z|⟨_,_,_,_,_,_,_,z⟩<;>(rw[z];simp)
  ·o!⟨o1,g1,g2⟩:=dk dx hx
   rw[he]at g1;c! g1;~\(_,he4,by rw[aaV];~g2)
 ·intro b o hb nf
  o!⟨sl,z⟩:=so.2.2 b o hb;~\(sl,keep b _ (wz b o hb nf) z)
T! abe(hfr:A.frames=some (env::outer))(hf:env.frame=some L)(x:mO B (env::outer) e cls d s.heap)
    (hQ:∀h1,Jf B (env::outer) e cls d L h1->s.heap.UpToSlots h1->Q () {s with heap:=h1}):wpAny M A (noteFrame (.ref e) env) Q E s:=by
 o!⟨⟨a0,st,fe,ff,oe,vs,T,oT,ts,he,⟨hc,h0⟩,hd,h1,bT,Te,hT,hdT,h3⟩,dk⟩:=x;subst hc;u! noteFrame;S![hf];r! wpAny_bind (wpAny_field he hd h1 ?_);rw[if_pos (by simp)];r! wpAny_bind (wpAny_field hT hdT h3 ?_);rw[if_neg (by simp[rawInt])];r! wpAny_bind (wpAny_setField hT hdT (Array.getElem?_eq_some_iff.mp h3).1 ?_);h! uF:∀b,b≠T->(s.heap.update T (Obj.mapFields (·.setIfInBounds 3 Value.none))).get? b=s.heap.get? b:=λb z=>Heap.get?_update_other _ _ (Ne.symm z);h! wz:∀b o,s.heap.get? b=some o->(∀ws,o.data≠.fields ws)->b≠T:=λb o hb nf z=>by
  subst z;rw[hT]at hb;c! hb;~nf ts hdT
 r! aa6 (s:={s with heap:=s.heap.update T (Obj.mapFields (·.setIfInBounds 3 Value.none))}) hfr (ff.of_keeps λb o hb nf=>\(o,by rw[uF b (wz b o hb nf)];~hb,rfl)) hf
  (by rw[uF e (Ne.symm Te)];~he) (λb o q=>by rw[uF b λz=>by rw[z,bT]at q;cases q];~st b o q) fe hd (Array.getElem?_eq_some_iff.mp h1).1 h0 (aaZ hT hdT dk) λh5 hl up=>?_
 ~hQ h5 hl λb o hb nf=>up b o (by rw[uF b (wz b o hb nf)];~hb) nf
T! apc{oe:Obj}{vs:Array Value}{a0:Value}(hfr:A.frames=some (env::outer))(ff:s.heap.FunFrames B (env::outer))(hf:env.frame=some L)(he:s.heap.get? e=some oe)(st:B.StaysIn s.heap)
    (fe:B.get? e=none)(hd:oe.data=.fields vs)(h1:vs[1]?=some .none)(h0:vs[0]?=some a0)(dk:Dk s.heap e d)
    (hQ:∀h1,Jf B (env::outer) e oe.cls d L h1->s.heap.UpToSlots h1->Q () {s with heap:=h1}):wpAny M A (noteFrame (.ref e) env) Q E s:=by
 u! noteFrame;S![hf];r! wpAny_bind (wpAny_field he hd h1 ?_);rw[if_neg d?];~aa6 hfr ff hf he st fe hd (Array.getElem?_eq_some_iff.mp h1).1 h0 dk hQ
T! ab9{fl a0:Value}(st:B.StaysIn s.heap)(fe:B.get? e=none)(ff:s.heap.FunFrames B l)(tr:s.heap.TracedAtW B e cls a0 fl)(dk:Dk s.heap e d)
    (hQ:∀h1,mO B l e cls d h1->s.heap.UpToSlots h1->Q () {s with heap:=h1}):wpAny M A (setFlight (.ref e) none) Q E s:=by
 o!⟨oe,vs,T,oT,ts,he,hc,hd,h1,bT,Te,hT,hdT,h3⟩:=tr;h! z3:3<ts.size:=(Array.getElem?_eq_some_iff.mp h3).1;u! setFlight;r! wpAny_bind (wpAny_field he hd h1 ?_);rw[if_pos (by simp)];r! wpAny_setField hT hdT z3 (hQ _ \(\(a0,?_),aaZ hT hdT dk) ?_)
 all_goals
  h! uF:∀b,b≠T->(s.heap.update T (Obj.mapFields (·.setIfInBounds 3 ((none:Option Addr).elim Value.none λf=>rawInt f)))).get? b=s.heap.get? b:=λb z=>Heap.get?_update_other _ _ (Ne.symm z);h! wz:∀b o,s.heap.get? b=some o->(∀ws,o.data≠.fields ws)->b≠T:=λb o hb nf z=>by
   subst z;rw[hT]at hb;c! hb;~nf ts hdT
 ·r!\(λb o q=>by rw[uF b λz=>by rw[z,bT]at q;cases q];~st b o q,fe,ff.of_keeps λb o hb nf=>\(o,by rw[uF b (wz b o hb nf)];~hb,rfl),?_)
  ~\(oe,vs,T,_,_,by rw[uF e (Ne.symm Te)];~he,hc,hd,h1,bT,Te,Heap.get?_update_self _ hT (Obj.isFreed_of_fields (Obj.data_mapFields hdT _)),Obj.data_mapFields hdT _,by simp[z3])
 ·~λb o hb nf=>\(o.slots,by rw[uF b (wz b o hb nf)];~hb)
T! Rz(x:Jf B l e cls d L s.heap)(hQ:∀h1,mO B l e cls d h1->s.heap.UpToSlots h1->Q () {s with heap:=h1}):wpAny M A (setFlight (.ref e) none) Q E s:=by
 o!⟨⟨a0,st,fe,ff,tr⟩,dk⟩:=x;~ab9 st fe ff tr dk hQ
T! ajk(x:mO B l e cls d s.heap)(hQ:∀h1,mO B l e cls d h1->s.heap.UpToSlots h1->Q () {s with heap:=h1}):wpAny M A (setFlight (.ref e) none) Q E s:=by
 o!⟨⟨a0,st,fe,ff,tr⟩,dk⟩:=x;~ab9 st fe ff tr.at dk hQ
T! mO.less(x:mO B (env::outer) e cls d s.heap):mO B outer e cls d s.heap:=by
 o!⟨⟨a0,st,fe,⟨_,_,ff⟩,tr⟩,dk⟩:=x;~\(\(a0,st,fe,ff,tr),dk)
T! ajl(hfr:A.frames=some (env::outer))(hf:env.frame=some L)(x:mO B (env::outer) e cls d s.heap)
    (hQ:∀h1,mO B outer e cls d h1->s.heap.UpToSlots h1->Q () {s with heap:=h1}):wpAny M A (leaving env (.ref e)) Q E s:=by
 u! leaving;~wpAny_bind (abe hfr hf x λh1 x1 u1=>Rz (s:={s with heap:=h1}) x1 λh2 x2 u2=>hQ h2 (mO.less (s:={s with heap:=h2}) x2) (u1.trans u2))
T! apb{oe:Obj}{vs:Array Value}{a0:Value}(hfr:A.frames=some (env::outer))(ff:s.heap.FunFrames B (env::outer))(hf:env.frame=some L)(he:s.heap.get? e=some oe)(st:B.StaysIn s.heap)
    (fe:B.get? e=none)(hd:oe.data=.fields vs)(h1:vs[1]?=some .none)(h0:vs[0]?=some a0)(dk:Dk s.heap e d)
    (hQ:∀h1,mO B outer e oe.cls d h1->s.heap.UpToSlots h1->Q () {s with heap:=h1}):wpAny M A (leaving env (.ref e)) Q E s:=by
 u! leaving;~wpAny_bind (apc hfr ff hf he st fe hd h1 h0 dk λh3 x1 u1=>Rz (s:={s with heap:=h3}) x1 λh2 x2 u2=>hQ h2 (mO.less (s:={s with heap:=h2}) x2) (u1.trans u2))
end
end Fx
set_option maxHeartbeats 4000000
namespace L2
open PySem PySem.Spec PyProof.Rows Fx
D! eE(P:Program)(w:World):lW:=λouter H s E e s'=>
 ∃(ea:Addr) (cls:Value) (d:Option Addr) (H1:Hp) (B:Heap),e=.ref ea/\s'.os=s.os/\AllBare s'.gens/\mO B outer ea cls d s'.heap/\
  (∀h5:Heap,B.StaysIn h5->s'.heap.UpToSlots h5->Un (frs outer) [] H H1 s.heap h5/\fG P w H1 h5)/\H1 ea=none/\s.heap.get? ea=none/\E cls d H1
structure Pa(X:Cx)(pins:L!)(e:Addr):Prop where
 old:X.s₀.heap.get? e=none
 pin:∀p∈X.pn++pins,p.1≠e
 loc:e≠X.env.locals
 cel:∀x c,X.env.cells.lookup x=some c->c≠e
 frm:e∉X.fs
D! XP(X:Cx)(pins:L!)(σ:St)(R:XK)(e:Value)(s':Shared):Prop:=
 ∃(ea:Addr) (cls:Value) (d:Option Addr) (H1:Hp) (B:Heap),e=.ref ea/\mO B X.stack ea cls d s'.heap/\
  (∀h5:Heap,B.StaysIn h5->s'.heap.UpToSlots h5->Inv X pins σ H1 {s' with heap:=h5})/\H1 ea=none/\Pa X pins ea/\R cls d H1
section
variable{X:Cx}{pins:L!}{σ:St}{H:Hp}{s s':Shared}{e:Value}{E:XK}
T! Inv.Tc{ea:Addr}(I:I!)(n:s.heap.get? ea=none)(hex:X.ex=[]):Pa X pins ea:=by
 h! z:∀b o,s.heap.get? b=some o->b≠ea:=λb o q w=>by rw[w,n]at q;c! q
 r!\(?_,λp hp=>z _ _ (I.pin p hp).1,λw=>?_,λx c hc=>?_,λhb=>?_)
 ·cases q:X.s₀.heap.get? ea with
  |none=>rfl
  |some o=>
   o!⟨o1,q1⟩:=I.base.there ea o q (by rw[hex];simp);rw[n]at q1;c! q1
 ·o!⟨m,⟨o,_,_,ho,_⟩,_⟩:=I.loc
  ~z _ _ ho w.symm
 ·o!⟨v,o,ho,_⟩:=I.cell x c hc
  ~z _ _ ho
 ·o!⟨_,o,ho,_⟩:=I.nQ.mem hb
  ~z _ _ ho rfl
T! agL(I:I!)(h:eE X.prog X.w X.stack H s E e s')(hex:X.ex=[]):XP X pins σ E e s':=by
 o!⟨ea,cls,d,H1,B,rfl,os,bare,fl,cl,en,fr,hE⟩:=h;r!\(ea,cls,d,H1,B,rfl,fl,λh5 b5 u5=>?_,en,I.Tc fr hex,hE);o!⟨un,hok⟩:=cl h5 b5 u5;~I.aaw (s':={s' with heap:=h5}) (ch:=[]) os un hok bare λb z=>absurd z (by simp)
end
T! ir.there{P:Program}{w:World}{H:Hp}{h:Heap}{a:Addr}{o:HO}(x:ir P w H h a o):∃ob,h.get? a=some ob:=by
 cases o with
 |lst xs=>o!⟨_,_,_,_,q⟩:=x;~\(_,q)
 |tup xs=>o!⟨_,_,_,ob,q,_⟩:=x;~\(_,q)
 |dK kvs=>o!⟨_,_,_,_,ob,_,_,q,_⟩:=x;~\(_,q)
 |dT kvs=>o!⟨_,_,_,_,ob,_,_,q,_⟩:=x;~\(_,q)
 |set S n=>o!⟨ob,_,_,_,q,_⟩:=x;~\(_,q)
 |ins C dx fs=>o!⟨_,_,_,q,_⟩:=x;~\(_,q)
 |own y=>~x
 |xd fs=>o!⟨_,⟨_,_,_,q,_⟩,_⟩:=x;~\(_,q)
 |Nk lo hi=>o!⟨_,_,_,q⟩:=x;~\(_,q)
 |nP ob u=>o!⟨q,_⟩:=x;~\(_,q)
 |iZ ps=>~\(_,(show h.get? a=some _ from x))
 |met f y=>~\(_,(show h.get? a=some _ from x))
 |ext φ=>o!⟨_,q,_⟩:=x;~q
T! fG.no{P:Program}{w:World}{H:Hp}{h:Heap}{a:Addr}(x:fG P w H h)(n:h.get? a=none):H a=none:=by
 cases q:H a with
 |none=>rfl
 |some o=>
  o!⟨ob,z⟩:=(x a o q).there;rw[n]at z;c! z
section
variable{P:Program}{w:World}{K:PySem.W.Frag}{mg:G!}{base:Heap}{N:List Str}{qual:Str}{scope:Scope}{f:Addr}{cd:Value}{A:Around}{outer:List Env}{s:Shared}{H:Hp}{E:XK}
T! aR:Passes (eE P w) Y! E:=λpins σ H1 s1 e s' I h=>by
 o!⟨ea,cls,d,H2,B,rfl,fl,cl,en,na,hE⟩:=agL I h rfl;h! J:=λh5 b5 u5=>cl h5 b5 u5;o!⟨a0,st,_⟩:=fl.1;h! J0:=J s'.heap st (Heap.UpToSlots.refl _);show wpAny _ _ (leaving _ (.ref ea)) _ _ s';r! ajl (outer:=outer) (L:=s.heap.objs.size) I.ok.frames rfl fl λh1 fl1 u1=>?_;~\(ea,cls,d,H2,B,rfl,J0.os,J0.bare,fl1,λh5 b5 u5=>\((J h5 b5 (u1.trans u5)).base,(J h5 b5 (u1.trans u5)).hok),en,na.old,hE)
T! aeI{pins:L!}{σ:St}{H2:Hp}{s2:Shared}{e:Addr}{oe:Obj}{vs:Array Value}{a0:Value}{d:Option Addr}
    (I:Inv Y! pins σ H2 s2)(he:s2.heap.get? e=some oe)(fr:s.heap.get? e=none)(hd:oe.data=.fields vs)(h1:vs[1]?=some .none)(h0:vs[0]?=some a0)
    (dk:Dk s2.heap e d)(en:H2 e=none)(hE:E oe.cls d H2):(Y!).xe (.ref e) s2:=by
 let X:=jK (eE P w) P w K mg base N qual scope f cd A outer s H E
 let B:=PySem.W.hideAll s2.heap (e::frs X.stack)
 h! st:B.StaysIn s2.heap:=λb o q=>PySem.W.of_hideAll _ q;h! fe:B.get? e=none:=PySem.W.hideAll_none _ (List.Mem.head _);h! ff:s2.heap.FunFrames B X.stack:=PySem.W.funFrames_hide I.stack λenv hm b hb=>List.Mem.tail _ (List.mem_filterMap.mpr \(env,hm,hb));show wpAny _ _ (leaving _ (.ref e)) _ _ s2;r! apb (B:=B) (outer:=outer) (L:=s.heap.objs.size) I.ok.frames ff rfl he st fe hd h1 h0 dk λh3 fl3 u3=>?_;r!\(e,oe.cls,d,H2,B,rfl,I.os,I.bare,fl3,λh5 b5 u5=>?_,en,fr,hE);h! up:s2.heap.UpToSlots h5:=u3.trans u5;h! keep:∀b o,s2.heap.get? b=some o->b≠e->b∉frs X.stack->h5.get? b=some o:=λb o q n1 n2=>b5 b o (PySem.W.hideAll_get _ q λz=>by
  rcases List.mem_cons.mp z with z|z;· ~n1 z
  · ~n2 z)
 h! Oa:∀b o,H2 b=some o->b≠e/\b∉frs X.stack:=λb o q=>\(λz=>(by subst z;rw[en]at q;c! q),λz=>(by rw[I.Xz b z]at q;c! q));h! old:∀b o,s.heap.get? b=some o->b∉frs outer->b≠e/\b∉frs X.stack:=λb o q n=>\(λz=>(by subst z;rw[fr]at q;c! q),λz=>(List.mem_cons.mp (I.Ny b z)).elim (λz=>absurd (Heap.lt_size q) (by rw[z];~Nat.lt_irrefl _)) (λz=>n z));h! abi:∀b o,s2.heap.get? b=some o->b∈frs outer->∃sl,h5.get? b=some {o with slots:=sl}:=λb o q hb=>by
  o!⟨_,o2,q2,nf⟩:=I.nQ.mem hb;rw[q]at q2;c! q2;~up b o q nf
 r!\(\(λb o q n hb _=>?_,λb o q n hb _=>?_,λb o q n hx=>I.base.free b o q n hx,λb o q hx=>?_,I.base.tups,I.base.oX,I.base.o7),λa o ea=>?_)
 ·o!⟨n1,n2⟩:=old b o q hb
  ~keep b o (I.base.keep b o q n hb (by intro z;~absurd (show b∈([]:List Addr)from z) (by simp))) n1 n2
 ·o!⟨sl,q1⟩:=I.base.slot b o q n hb (by intro z;~absurd (show b∈([]:List Addr)from z) (by simp))
  o!⟨sl2,q2⟩:=abi b _ q1 hb;~\(sl2,q2)
 ·o!⟨o1,q1⟩:=I.base.there b o q hx
  by_cases hb:b∈frs outer
  ·o!⟨sl2,q2⟩:=abi b _ q1 hb
   ~\(_,q2)
  ·o!⟨n1,n2⟩:=old b o q hb
   ~\(o1,keep b o1 q1 n1 n2)
 ·r!(I.hok a o ea).uQ (λb u hb q=>?_) (λ_ q=>q) λ_ _ q=>q
  rcases hb with rfl|hb;·~keep b u q (Oa b _ ea).1 (Oa b _ ea).2
  ·~keep b u q (Oa b _ hb).1 (Oa b _ hb).2
end
T! aa8{K:PySem.W.Frag}{h:Heap}{C:Addr}{bmB:List Value}{newId:String}(X:K.In h)(q:PySem.W.excIn K C bmB newId=true):
    ∃bm N nm qn bs hdct sn sub ab col dd k0 k1 k2 k3 k5 mN,h.get? C=some (excClassObj nm qn C N bs bm hdct sn sub ab col dd k0 k1 k2 k3 k5 newId)/\h.Ns N mN/\mN "__init__"=none/\OwnTail h bmB bm:=by
 u! PySem.W.excIn at q;split at q
 next dd cd sl ho=>
  split at q
  next C' bm k0 k1 k2 k3 n k5 hm hs=>
   S![Bool.and_eq_true,beq_iff_eq,Bool.not_eq_true']at q;o!⟨⟨⟨⟨⟨rfl,rfl⟩,Gh⟩,tl⟩,hok⟩,v8⟩:=q;rcases cd with⟨nm,bs,mro,ns,qn,K6,sn,sub,ab,col,del⟩;dsimp only at hm Gh hok v8;subst hm Gh;h! es:sl=#[k0,k1,k2,k3,some (.builtin n),k5]:=by
    rcases sl with⟨l⟩;simp only at hs;rw[hs]
   subst es;~\(bm,ns,nm,qn,bs,K6,sn,sub,ab,col,dd,k0,k1,k2,k3,k5,_,X _ _ ho,.of_isNs (PySem.W.isNs_of_in X hok),PySem.W.nsMap_none_of_in X hok v8,PySem.W.tail_of_in X tl)
  next=>c! q
 next=>c! q
section
variable{P:Program}{w:World}{K:PySem.W.Frag}{mg:G!}{base:Heap}{N:List Str}{qual:Str}{scope:Scope}{f:Addr}{cd:Value}{A:Around}{outer:List Env}{s:Shared}{H:Hp}{E:XK}
D! aqY(E:XK)(C:Addr):TS:=λ_ _ H=>E (.ref C) none H
T! aov{x:Str}{C:Addr}{bmB:List Value}{B newId Bb:String}{np cpos pos:Pos}(FB:ExcBaseFacts B newId Bb bmB)(q:PySem.W.excIn K C bmB newId=true)
    (hg:Gl Y! x)(hm:mg x=some (.ref C))(hdb:E!:=by decide):
    PS Y! (.Raise (some (.Call (.Name x np) [] [] cpos)) none pos) (aqY E C):=by
 intro pins s1 σ H1 D I h;o!⟨bm,NS,nm,qn,bs,hdct,sn,sub,ab,col,dd,k0,k1,k2,k3,k5,mN,hC,hN,v8,TL⟩:=aa8 I.eY q;r! wpAny_Raise_call_subT (bm:=bm) FB (mN:=mN) (TL.hasType FB.hasBase) (I.ok.hd rfl) rfl v8 (ym I hg hm \(rfl,evalArgs_empty \(rfl,Nat.zero_le _,hC,hN,TL,λh2 e mk=>?_)) hdb);o!⟨t,he,_,_⟩:=mk.there;h! I2:Inv Y! pins σ H1 {s1 with heap:=h2}:=I.kept (t':=s1.toks) mk.keeps;r! aeI I2 he ?_ rfl rfl rfl (by intro dx z;c! z) (I.hok.no mk.new) h;cases z:s.heap.get? e with
 |none=>rfl
 |some o=>
  o!⟨o1,q1⟩:=I.base.there e o z (by intro y;~absurd (show e∈([]:List Addr)from y) (by simp));rw[mk.new]at q1;c! q1
end
section
variable{P:Program}{w:World}{K:PySem.W.Frag}{mg:G!}{base:Heap}
T! cF.okX{x qual:Str}{st:Stmt}{f:Addr}{fd:FuncData}{N ps:List Str}{k:Nat}{sp:Sp}(F:cF K x qual st f fd)(S:b7 N ps (bf st))(len:∀vs H Q E,sp vs H Q E->vs.length=ps.length)
    (hbody:∀(cdv:Value) (A:Around) (outer:List Env) (s:Shared) (H:Hp) (vs:List V) (Q:VK) (E:XK),dI k (A.deeper (envOfC qual (bf st) s.heap.objs.size f cdv))->sp vs H Q E->
      ∃t,lJ (jK (eE P w) P w K mg base N qual (bf st) f cdv A outer s H E) (d7 st) t/\t {nx:=λ_ H'=>Q .non H',rt:=Q} (start N vs) H):F! (k+1) f fd ps sp:=by
 o!⟨oc,od,kV,doc,pm,an,cdv,ct,osl,rfl,lk,hcd⟩:=F.ex;~Q9 lk hcd S len λA outer s H vs Q E hr hsp=>hbody cdv A outer s H vs Q E hr hsp
end
A! TX:=St->Hp->VK->XK->Prop
D! EX(X:Cx)(e:Expr)(t:TX):Prop:=
 ∀(pins:L!) (s:Shared) (σ:St) (H:Hp) (Q:VK) (R:XK),I!->t σ H Q R->wpAny M! X.A (eval e X.env) (EP X pins σ Q) (XP X pins σ R) s
A! TB:=Ends->(St->XK)->St->Hp->Prop
D! BX(X:Cx)(body:List Stmt)(t:TB):Prop:=
 ∀(pins:L!) (s:Shared) (σ:St) (H:Hp) (D:Ends) (R:St->XK),I!->t D R σ H->
  wpAny M! X.A (execs body X.env) (SP X pins D) (λe s'=>∃eQ,XP X pins eQ (R eQ) e s') s
section
variable{X:Cx}{k:Nat}{f:Addr}{fd:FuncData}{ps:List Str}{sp:Sp}{d8:List V}{ds:List Value}{x:Str}{p pos:Pos}{e:Expr}{es:List Expr}{t:TA}
T! apm{pins:L!}{σ:St}{H:Hp}{s:Shared}{Q:VK}{R:XK}{us:List Value}{vs:List V}(F:fM X.prog X.w X.K X.mg X.base (eE X.prog X.w) k f fd ps sp)(hr:dI k X.A)(hb:Binds X.K fd ps ds)(hd:Vals d8 ds)
    (hex:X.ex=[])(I:I!)(r:Vals vs us)(h:sp (vs++d8) H Q R):wpAny M! X.A (call (.ref f) us) (EP X pins σ Q) (XP X pins σ R) s:=by
 h! r2:Vals (vs++d8) (us++ds):=r.append hd;h! hl:(us++ds).length=ps.length:=by rw[<-r2.length];~F.len _ _ _ _ h
 r! wpAny_call (codeAny_mono (F.run X.A X.stack s H \(us,[]) (us++ds) (vs++d8) Q R hr I.JV (hb s us I.eY hl) r2 h) λres s1 hq=>?_);cases res with
 |error ex=>~agL I hq hex
 |ok fl=>
  cases fl with
  |ret u=>~I.after hq
  |next=>~False.elim hq
  |brk=>~False.elim hq
  |cont=>~False.elim hq
D! agK(sp:Sp)(d8:List V)(t:TA):TX:=λσ H Q R=>t σ H λvs H1=>sp (vs++d8) H1 Q R
T! ajb(F:fM X.prog X.w X.K X.mg X.base (eE X.prog X.w) k f fd ps sp)(hr:dI k X.A)(hg:Gl X x)(hm:X.mg x=some (.ref f))(hk:PySem.W.keepIn X.K (.ref f)=true)(hb:Binds X.K fd ps ds)(hd:Vals d8 ds)
    (ha:PA X.sO (e::es) t)(hex:X.ex=[]:=by rfl)(hdb:E!:=by decide)(he:W!:=by rfl)(hpl:Q!:=by rfl):
    EX X (.Call (.Name x p) (e::es) [] pos) (agK sp d8 t):=by
 intro pins s σ H Q R I h;r! wpAny_Call_Name_kw (ym I hg hm ?_ hdb);r! PySem.W.callWith_K (h₀:=X.base) I.ok.mod.uB hk (wpAny_mono (ha pos pins s σ H _ (I.pW _) h) (λus s1 q=>?_) λ_ _ z=>z.elim) he hpl;o!⟨vs,H1,I1,r,q⟩:=q;h! I2:Inv X pins σ H1 s1:=I1.o8;~\(I2.eY,apm F hr hb hd hex I2 r q)
T! ah4{i:Nat}{y:Str}{te:TX}{pos':Pos}(hN:X.N.Nodup)(hi:X.N[i]?=some y)(hy:Loc X.env.scope y)(he:EX X e te)(hs:swapsWith e (some (.Name y pos')) pos.line X.env=pure false:=by rfl)
    (hf:X.fn y=true\/X.env.scope.names.lookup y=some .local:=by O!):
    BX X [.Assign [.Name y pos'] e pos] (λD R σ H=>te σ H (λv H1=>D.nx (σ.set i (some v)) H1) (R σ)):=by
 intro pins s σ H D R I h;r! wpAny_execs_cons (wpAny_Assign_Name (wpAny_mono (he pins s σ H _ _ I h) (λv s1 q=>?_) λex s1 q=>\(σ,q)) hs);o!⟨z,H1,I1,r1,q1⟩:=q;~XC I1 hN hi hy r1 (λs2 I2=>wpAny_execs_nil \(_,H1,I2,q1)) hf
end
A! Cx.mY(X:Cx)(ea:Addr):Cx:={X with A:=X.A.mark (some (.ref ea)),calm:=false}
section
variable{X:Cx}{pins:L!}{σ:St}{H:Hp}{s:Shared}{ea:Addr}
T! Inv.mY(I:I!)(ea:Addr):Inv (X.mY ea) pins σ H s:=by
 o!⟨ok,r1,r2,r3,r4,r5,r6,r7,r8,r9,Vy⟩:=I;o!⟨m1,m2,m3,m4,m5,m6,m7,m8,m9,m10,m11,m12,m13,m14,m15,m16,m17,m18⟩:=ok;~\(\(m1,m2,m3,m4,m5,m6,m7,m8,(λz=>nomatch z),m10,m11,m12,m13,m14,m15,m16,m17,m18),r1,r2,r3,r4,r5,r6,r7,r8,r9,Vy)
T! Inv.Cz(ok:X.Ok)(I:Inv (X.mY ea) pins σ H s):I!:=by
 o!⟨_,r1,r2,r3,r4,r5,r6,r7,r8,r9,Vy⟩:=I;~\(ok,r1,r2,r3,r4,r5,r6,r7,r8,r9,Vy)
T! SP.Cz{D:Ends}{fl:Flow}(ok:X.Ok)(h:SP (X.mY ea).sO pins D fl s):SP X pins D fl s:=by
 cases fl with
 |next=>o!⟨σ',H',J,q⟩:=h;~\(σ',H',Inv.Cz ok J.o8,q)
 |brk=>o!⟨σ',H',J,q⟩:=h;~\(σ',H',Inv.Cz ok J.o8,q)
 |cont=>o!⟨σ',H',J,q⟩:=h;~\(σ',H',Inv.Cz ok J.o8,q)
 |ret u=>o!⟨v,σ',H',J,r,q⟩:=h;~\(v,σ',H',Inv.Cz ok J.o8,r,q)
end
section
variable{X:Cx}
end
section
variable{X:Cx}
D! agX(i j:Int):Prop:=Builtin.Int.intBits i<=1048576/\Builtin.Int.intBits j<=1048576
T! anu:gA X (binaryOp .Mult) (rI agX λi j=>.int (i*j)):=G6 λ_ _ _ _ _ _ _ hc q=>mul_int q (IntMulOk.of_le hc.1 hc.2 d?)
D! Y4(_ j:Int):Prop:=j≠0/\Builtin.Int.intBits j<=9000
T! akN{j:Int}(h:Builtin.Int.intBits j<=9000):j.natAbs.log2<9000:=by
 by_cases z:j.natAbs=0;·rw[z];decide+kernel
 ·~(Nat.log2_lt z).mpr (intBits_le_iff.mp h)
T! anl:gA X (binaryOp .FloorDiv) (rI Y4 λi j=>.int (i.fdiv j)):=G6 λ_ _ _ _ _ _ _ hc q=>floordiv_int hc.1 q (.inl (PyProof.noPylong_of_log2 (akN hc.2)))
end
end L2
namespace L2
open PySem PySem.Spec PyProof.Rows Fx
D! jG(P:Program)(w:World)(K:PySem.W.Frag)(mg:G!)(base:Heap)(CX:lW)(k:Nat)(x:Str)(ps:List Str)(sp:Sp):Prop:=
 ∃f fd,fM P w K mg base CX k f fd ps sp/\Binds K fd ps []/\PySem.W.keepIn K (.ref f)=true/\mg x=some (.ref f)
T! ac5{P:Program}{w:World}{X:Cx}:Passes (eE P w) X E0:=λ_ _ _ _ _ _ _ h=>by
 o!⟨_,_,_,_,_,_,_,_,_,_,_,_,z⟩:=h;~z.elim
section
variable{X:Cx}{CX:lW}{k:Nat}{ps:List Str}{sp:Sp}{E:XK}{x:Str}{p pos:Pos}{e:Expr}{es:List Expr}{t:TA}
T! U4(h:jG X.prog X.w X.K X.mg X.base CX k x ps sp)(hr:dI k X.A)(hg:Gl X x)(hx:Passes CX X E)(ha:PA X (e::es) t)(hdb:E!:=by decide)
    (he:W!:=by rfl)(hpl:Q!:=by rfl):PE X (.Call (.Name x p) (e::es) [] pos) (afB sp [] E t):=by
 o!⟨f,fd,F,b,kp,m⟩:=h;~anM F hr hg m kp b .nil hx ha hdb he hpl
T! ajc(h:jG X.prog X.w X.K X.mg X.base (eE X.prog X.w) k x ps sp)(hr:dI k X.A)(hg:Gl X x)(ha:PA X.sO (e::es) t)(hex:X.ex=[]:=by rfl)(hdb:E!:=by decide)
    (he:W!:=by rfl)(hpl:Q!:=by rfl):EX X (.Call (.Name x p) (e::es) [] pos) (agK sp [] t):=by
 o!⟨f,fd,F,b,kp,m⟩:=h;~ajb F hr hg m kp b .nil ha hex hdb he hpl
end
end L2
namespace Fx
open PySem
section
variable{prog:Program}{w:World}{A:Around}{E:B!}{h:Heap}{g:Array GenState}{d:Drawn}{t:Nat}{os:OsState}
variable{nm q:Str}{C N:Addr}{bs bm bmB:List Value}{hdct:Bool}{sn:List Str}{sub:List Value}{ab:Bool}{col:Option Bool}{dd:Option Addr}{k0 k1 k2 k3 k5:Option Value}{B newId Bb:String}
T! arJ(F:ExcBaseFacts B newId Bb bmB)(T:OwnTail h bmB bm){mN:G!}{vals:List Value}{fI:Addr}{oI:Obj}{Q:Fin->Shared->Prop}
    (hC:h.get? C=some (excClassObj nm q C N bs bm hdct sn sub ab col dd k0 k1 k2 k3 k5 newId))(hn:h.Ns N mN)(hi:mN "__init__"=some (.ref fI))(hfI:h.get? fI=some oI)(hfc:oI.cls=.type "function")
    (hq:∀h1 e,Heap.MadeExcOf h h1 e (.ref C) vals->h.objs.size<=e->wpAny N! A (call (.ref fI) (.ref e::vals)) (λr s1=>r=.none/\Q (.done (.ret (.ref e))) s1) E \(h1,g,d,t,os))(hz:vals.length<=sizeLine):
    wpAny N! A (Builtin.«type.__call__» \(.ref C::vals,[])) Q E \(h,g,d,t,os):=by
 repeat(first|with_reducible r! wpAny_loadPart_at hC ?_|with_reducible r! wpAny_madeBy_exc hC ?_|wp_step)
 r! codeAny_call_builtin_code (Code.quiet_builtin _ F.quiet) (wpAny_check_new_subT F T hC (codeAny_exc_new_subT F T hC ?_ hz));show wpAny _ _ _ _ _ _;generalize hp:(h.push {cls:=.type "tuple",data:=.seq vals.toArray}).push {cls:=.ref C,data:=.fields #[.ref h.objs.size,.none,.none,.none,.bool false,.none]}=Gp;h! kp:∀b o,h.get? b=some o->Gp.get? b=some o:=λb o z=>by rw[<-hp];~Heap.get?_push_of_some _ (Heap.get?_push_of_some _ z)
 h! ge:Gp.get? (h.objs.size+1)=some {cls:=.ref C,data:=.fields #[.ref h.objs.size,.none,.none,.none,.bool false,.none]}:=by rw[<-hp];heap_get
 h! gt:Gp.get? h.objs.size=some {cls:=.type "tuple",data:=.seq vals.toArray}:=by rw[<-hp];~Heap.get?_push_of_some _ (Heap.get?_push_at rfl rfl)
 h! cC:(Value.ref C::bm).contains (.ref C)=true:=by simp
 u! isInstance;repeat(first|with_reducible r! wpAny_loadPart_at ge ?_|(with_reducible r! wpAny_isSubtype_exc (kp _ _ hC) ?_;rw[cC])|wp_step)
 show wpAny _ _ (typeLookup (.ref C) _) _ _ _;r! wpAny_typeLookup_tail (kp _ _ hC) (hn.keeps kp) (T.keeps kp) F.mroIs F.init.lookup ?_;rw[hi];r! wpAny_holding (wpAny_bind ?_);u! bindSpecial;r! wpAny_bind (wpAny_typeOf (T:="function") \(_,kp _ _ hfI,hfc) ?_);rw[if_pos d?];r! wpAny_pure (wpAny_bind (wpAny_mono (hq _ (h.objs.size+1) \(kp,Heap.get?_none_of_le (Nat.le_succ _),h.objs.size,ge,Heap.get?_none_of_le n!,gt) (Nat.le_succ _)) (λr s1 z=>?_) λ_ _ z=>z));o!⟨rfl,z⟩:=z
 wp_walk
 ~z
T! aic(F:ExcBaseFacts B newId Bb bmB)(T:OwnTail h bmB bm){mN:G!}{vals:List Value}{fI:Addr}{oI:Obj}{Q:B!}
    (hC:h.get? C=some (excClassObj nm q C N bs bm hdct sn sub ab col dd k0 k1 k2 k3 k5 newId))(hn:h.Ns N mN)(hi:mN "__init__"=some (.ref fI))(hfI:h.get? fI=some oI)(hfc:oI.cls=.type "function")
    (hq:∀h1 e,Heap.MadeExcOf h h1 e (.ref C) vals->h.objs.size<=e->wpAny N! (A.under (.builtin "type.__call__" \(.ref C::vals,[]))) (call (.ref fI) (.ref e::vals)) (λr s1=>r=.none/\Q (.ref e) s1) E \(h1,g,d,t,os))(hz:vals.length<=sizeLine):
    wpAny N! A (call (.ref C) vals) Q E \(h,g,d,t,os):=by
 h! f1:=tc_lookup;h! f2:=tc_bind (.ref C);h! hT:(\(h,g,d,t,os):Shared).TypeIs (.ref C) "type":=\(_,hC,rfl);r! wpAny_call (codeAny_of_tree ?_);show wpAny _ _ (callAny (.ref C) _) _ _ _;repeat(any_goals(first|assumption|with_reducible r! wpAny_loadPart_at hC ?_|wp_step))
 r!\(rfl,codeAny_call_builtin_at (Code.quiet_builtin _ k?) entry_typeCall (wpAny_check_type_call_sub hC (arJ F T hC hn hi hfI hfc (λh1 e z y=>hq h1 e z y) hz)))
T! ao9{M:Model}{env:Env}{s:Shared}{x:Sem Value}{Q:Flow->Shared->Prop}(hbase:bm.contains (.type "BaseException")=true)(hh:A.handled=none)
    (hx:wpAny M A x (λv s1=>∃e oe vs,v=.ref e/\s1.heap.get? C=some (excClassObj nm q C N bs bm hdct sn sub ab col dd k0 k1 k2 k3 k5 newId)/\s1.heap.get? e=some oe/\oe.cls=.ref C/\oe.data=.fields vs/\vs[1]?=some .none/\E (.ref e) s1) E s):
    wpAny M A (raiseStmt env (some x) none) Q E s:=by
 h! um:(Value.ref C::bm).contains (.type "BaseException")=true:=by rw[List.contains_cons,hbase,Bool.or_true]
 u! raiseStmt;r! wpAny_bind (wpAny_mono hx (λv s1 z=>?_) λ_ _ z=>z);o!⟨e,oe,vs,rfl,hC,he,hc,hd,hv1,hE⟩:=z;o!⟨hp,gg,dr,tk,Mv⟩:=s1;h! aj9:∀{Q':B!} {E':B!},Q' .none \(hp,gg,dr,tk,Mv)->wpAny M A (field (.ref e) 1) Q' E' \(hp,gg,dr,tk,Mv):=λz=>wpAny_field he hd hv1 z;repeat(first|with_reducible r! aj9 ?_|(with_reducible r! wpAny_loadPart_at he ?_;rw[hc])|with_reducible r! wpAny_loadPart_at hC ?_|(with_reducible r! wpAny_isSubtype_exc hC ?_;rw[um])|wp_step)
 ~wpAny_raiseNew_none hh hE
A! qi(h:Heap)(C:Addr)(n:Str)(y:Option Value):Prop:=∀(M:Model) (A:Around) (E:B!) (g:Array GenState) (d:Drawn) (t:Nat) (os:OsState) (Q:Option Value->Shared->Prop),
 Q y \(h,g,d,t,os)->wpAny M A (typeLookup (.ref C) n) Q E \(h,g,d,t,os)
open Builtin Builtin.ObjectAttr in
T! aqw{x:Addr}{name:Str}{v:Value}{o:Obj}{vs:Array Value}{tk:Tok}{Q:Fin->Shared->Prop}(hC:h.get? C=some (excClassObj nm q C N bs bm true sn sub ab col dd k0 k1 k2 k3 k5 newId))
    (hpass:refuseLoop (.ref x) "__setattr__" bm=pure ())(l2:qi h C name none)(hx:h.get? x=some o)(hc:o.cls=.ref C)(hdt:o.data=.fields vs)(hdn:o.dict=none)
    (hq:∀h1 wN,h1.get? x=some {o with dict:=some h.objs.size}->h1.Ns1 h.objs.size (λy=>if y=name then some v else none)->(∀b ob,b≠x->h.get? b=some ob->h1.get? b=some ob)->Q (.done (.ret .none)) \(h1,g,d,wN,os)):
    wpAny N! A (Builtin.«object.__setattr__» \([.ref x,.str name tk,v],[])) Q E \(h,g,d,t,os):=by
 u! Builtin.«object.__setattr__»;repeat(first|rw[refuse_eq]|(rw[refuseLoop_ref,hpass])|(with_reducible r! wpAny_loadPart_at hx ?_;rw[hc])|with_reducible r! wpAny_mroOf_exc hC ?_|with_reducible r! l2 _ _ _ _ _ _ _ _ ?_|wp_step)
 rw[hdn,if_neg (by simp[typeHasDict])];split
 ·rename_i z
  c! z
 split
 ·rename_i c z
  rw[hdt]at z;c! z
 ·h! Gq:(h.push {cls:=.type "dict",data:=.dict #[]}).get? x=some o:=Heap.get?_push_of_some _ hx
  h! ne:x≠h.objs.size:=Nat.ne_of_lt (Heap.lt_size hx);r! wpAny_bind (wpAny_alloc' (wpAny_bind (wpAny_update' Gq (wpAny_pure ?_))));generalize hu:(h.push {cls:=.type "dict",data:=.dict #[]}).update x (λo=>{cls:=o.cls,dict:=some h.objs.size,data:=o.data,slots:=o.slots})=Lh;h! gd:Lh.get? h.objs.size=some {cls:=.type "dict",data:=.dict #[]}:=by rw[<-hu];~(Heap.get?_update_ne _ _ _ _ ne.symm).trans (Heap.get?_push_at rfl rfl)
  h! gx:Lh.get? x=some {o with dict:=some h.objs.size}:=by
   rw[<-hu];r! Heap.get?_update_self _ Gq ?_;rcases o with⟨oc,od,odt,osl⟩;simp only at hdt;subst hdt;rfl
  h! gk:∀b ob,b≠x->h.get? b=some ob->Lh.get? b=some ob:=λb ob nb hb=>by rw[<-hu];~(Heap.get?_update_ne _ _ _ _ nb).trans (Heap.get?_push_of_some _ hb)
  h! nd:Lh.Ns h.objs.size (λ_=>none):=\(_,#[],_,gd,rfl,λe he=>absurd he (by simp),λ_=>rfl);show wpAny _ _ (storeInDict h.objs.size (.str name tk) name v) _ _ _;u! storeInDict newKeyGuard;r! wpAny_bind (wpAny_pure (wpAny_bind (wpAny_nsSet1 (Heap.Ns1.of_empty nd) λh1 n1 s1=>?_)));o!⟨oD,esD,epD,g1,g2,g3⟩:=n1.count (Within.cons name v Within.nil);r! wpAny_bind (wpAny_lookBehind g1 (by rw[g2];~pastItsLine_dict (Nat.le_trans g3 (by rw[List.length_cons,List.length_nil,sizeLine_eq];om))) ?_)
  wp_walk
  ~hq h1 _ ((s1.2 x ne).trans gx) n1 λb ob nb hb=>(s1.2 b (Nat.ne_of_lt (Heap.lt_size hb))).trans (gk b ob nb hb)
T! air{M:Model}{x:Addr}{o:Obj}{nv v:Value}{Q:Unit->Shared->Prop}(hC:h.get? C=some (excClassObj nm q C N bs bm true sn sub ab col dd k0 k1 k2 k3 k5 newId))
    (hob:bm.contains (.type "object")=true)(hx:h.get? x=some o)(hc:o.cls=.ref C)(hq:Q () \(h,g,d,t,os)):wpAny M A (checkBuiltinCall "object.__setattr__" \([.ref x,nv,v],[])) Q E \(h,g,d,t,os):=by
 h! SF:=PySem.F.store_object;h! um:(Value.ref C::bm).contains (.type "object")=true:=by rw[List.contains_cons,hob,Bool.or_true]
 h! ha:=SF.args (.ref x) nv v;S![checkBuiltinCall,SF.kind,SF.split];r! wpAny_bind ?_;u! isInstance;repeat(first|(with_reducible r! wpAny_loadPart_at hx ?_;rw[hc])|(with_reducible r! wpAny_isSubtype_exc hC ?_;rw[um])|wp_step)
 ~hq
T! aqx{x:Addr}{name:Str}{v:Value}{o:Obj}{vs:Array Value}{Q:Unit->Shared->Prop}(hC:h.get? C=some (excClassObj nm q C N bs bm true sn sub ab col dd k0 k1 k2 k3 k5 newId))
    (hob:bm.contains (.type "object")=true)(hpass:refuseLoop (.ref x) "__setattr__" bm=pure ())(l1:qi h C "__setattr__" (some (.builtin "object.__setattr__")))(l2:qi h C name none)(hx:h.get? x=some o)(hc:o.cls=.ref C)(hdt:o.data=.fields vs)(hdn:o.dict=none)
    (hq:∀h1 wN,h1.get? x=some {o with dict:=some h.objs.size}->h1.Ns1 h.objs.size (λy=>if y=name then some v else none)->(∀b ob,b≠x->h.get? b=some ob->h1.get? b=some ob)->Q () \(h1,g,d,wN,os)):
    wpAny N! A (setAttr (.ref x) name v) Q E \(h,g,d,t,os):=by
 h! SF:=PySem.F.store_object;h! f3:=SF.slot.bind (.ref x);u! setAttr callSpecial? specialOf;repeat(any_goals(first|assumption|(with_reducible r! wpAny_loadPart_at hx ?_;rw[hc])|with_reducible r! l1 _ _ _ _ _ _ _ _ ?_|wp_step))
 r! codeAny_call_builtin SF.slot.plain SF.entry (air hC hob hx hc (aqw hC hpass l2 hx hc hdt hdn λh1 wN a b c=>?_));repeat(any_goals(first|assumption|wp_step))
 ~hq h1 wN a b c
end
end Fx
namespace L2
open PySem PySem.Spec PyProof.Rows Fx
D! o5(e C t:Addr)(d:Option Addr):HO:=.ext λh=>h.get? e=some {cls:=.ref C,dict:=d,data:=.fields #[.ref t,.none,.none,.none,.bool false,.none]}
D! JZ(e C:Addr)(d:Option Addr):HO:=.ext λh=>∃oe vs,h.get? e=some oe/\oe.cls=.ref C/\(∀dx,d=some dx->oe.dict=some dx)/\oe.data=.fields vs
T! aeH{P:Program}{w:World}{H:Hp}{h:Heap}{e C t:Addr}{d:Option Addr}(q:h.get? e=some {cls:=.ref C,dict:=d,data:=.fields #[.ref t,.none,.none,.none,.bool false,.none]}):ir P w H h e (o5 e C t d):=
 \(q,\(_,q),λh1 h2 z k=>k _ z)
section
variable{X:Cx}{pins:L!}{σ:St}{H:Hp}{s:Shared}{e:Addr}{o:HO}
T! Inv.afQ(I:I!)(n:Pa X pins e)(hn:H e=none)(new:ir X.prog X.w (upd H e o) s.heap e o):Inv X pins σ (upd H e o) s:=by
 o!⟨ok,r1,r2,ba,r4,r5,Rb,Rc,pin,hok,len⟩:=I;h! ne:∀b u,H b=some u->b≠e:=λb u q z=>by rw[z,hn]at q;c! q
 r!\(ok,r1,r2,\(ba.keep,ba.slot,λb ob q h0 hx=>?_,ba.there,λb xs q=>?_,λb ob u q=>?_,λb ps q=>?_),r4,r5,?_,λx c hc=>?_,λp hp=>?_,λb u q=>?_,len);·rw[cD (λz=>by rw[z,n.old]at q;c! q)];~ba.free b ob q h0 hx
 ·h! z:=ba.tups b xs q
  rw[cD (ne _ _ z)];~z
 ·h! z:=ba.oX b ob u q
  rw[cD (ne _ _ z)];~z
 ·o!⟨m,z⟩:=ba.o7 b ps q
  ~\(m,by rw[cD (ne _ _ z)];~z)
 ·rw[cD (Ne.symm n.loc)];~Rb
 ·rw[cD (n.cel x c hc)];~Rc x c hc
 ·o!⟨p1,p2,p3⟩:=pin p hp
  ~\(p1,by rw[cD (n.pin p hp)];~p2,p3)
 ·by_cases z:b=e
  ·subst z;rw[gG]at q;c! q;~new
  ·rw[cD z]at q
   ~(hok b u q).uQ (λ_ _ _ y=>y) (λc y=>by rw[cD (ne _ _ y)];~y) λc xs y=>by rw[cD (ne _ _ y)];~y
D! drop(H:Hp)(e:Addr):Hp:=λb=>if b=e then none else H b
T! zX{b:Addr}(h:b≠e):drop H e b=H b:=if_neg h
T! Inv.forget{φ:Heap->Prop}(I:I!)(q:H e=some (.ext φ)):Inv X pins σ (drop H e) s:=by
 o!⟨ok,r1,r2,ba,r4,r5,Rb,Rc,pin,hok,len⟩:=I;h! dn:∀b,H b=none->drop H e b=none:=λb z=>by u! drop;split<;>first|rfl|~z
 h! ne:∀b u,H b=some u->(∀ψ,u≠.ext ψ)->b≠e:=λb u y z x=>by rw[x,q]at y;c! y;~z _ rfl
 r!\(ok,r1,r2,\(ba.keep,ba.slot,λb ob y h0 hx=>dn b (ba.free b ob y h0 hx),ba.there,λb xs y=>?_,λb ob u y=>?_,λb ps y=>?_),r4,r5,dn _ Rb,λx c hc=>dn _ (Rc x c hc),λp hp=>?_,λb u y=>?_,len)
 ·h! z:=ba.tups b xs y
  rw[zX (ne _ _ z λψ y=>nomatch y)];~z
 ·h! z:=ba.oX b ob u y
  rw[zX (ne _ _ z λψ y=>nomatch y)];~z
 ·o!⟨m,z⟩:=ba.o7 b ps y
  ~\(m,by rw[zX (ne _ _ z λψ y=>nomatch y)];~z)
 ·o!⟨p1,p2,p3⟩:=pin p hp
  ~\(p1,dn _ p2,p3)
 ·h! nb:b≠e:=λz=>by subst z;u! drop at y;rw[if_pos rfl]at y;c! y
  rw[zX nb]at y;~(hok b u y).uQ (λ_ _ _ z=>z) (λc z=>by rw[zX (ne _ _ z λψ y=>nomatch y)];~z) λc xs z=>by rw[zX (ne _ _ z λψ y=>nomatch y)];~z
end
D! JX(K:PySem.W.Frag)(C fI:Addr)(bmB:List Value)(newId:String):Bool:=match K.lookup C with
 |some \(.type "type",_,.cls cd,sl)=>(match cd.mro,sl.toList with
  |.ref C1::bm,[_,_,_,_,some (.builtin n),_]=>C1==C&&n==newId&&!cd.hasDel&&cd.hasDict&&PySem.W.tailIn K bmB bm&&PySem.W.nsOkIn K cd.ns&&PySem.W.nsIn K cd.ns "__init__"==some (some (.ref fI))
  |_,_=>false)
 |_=>false
T! alW{K:PySem.W.Frag}{h:Heap}{N:Addr}{m:G!}{n:Str}{v:Value}(X:K.In h)(G:h.Ns N m)(e:PySem.W.nsIn K N n=some (some v)):m n=some v:=by
 o!⟨o,es,ep,ho,hd,_,hf⟩:=G;u! PySem.W.nsIn at e;split at e
 next c d es1 n1 sl q=>
  h! z:=X _ _ q;rw[ho]at z;c! z;c! hd;split at e
  next en he=>
   c! e;rw[<-hf];u! nsFind findBy;rw[<-Array.find?_toList,he];rfl
  next=>split at e<;>c! e
 next=>c! e
T! Q5{K:PySem.W.Frag}{C fI:Addr}{bmB:List Value}{newId:String}(q:JX K C fI bmB newId=true):
    ∃bm N nm qn bs sn sub ab col dd k0 k1 k2 k3 k5,∀h:Heap,K.In h->h.get? C=some (excClassObj nm qn C N bs bm true sn sub ab col dd k0 k1 k2 k3 k5 newId)/\OwnTail h bmB bm/\∃mN,h.Ns N mN/\mN "__init__"=some (.ref fI):=by
 u! JX at q;split at q
 next dd cd sl ho=>
  split at q
  next C1 bm k0 k1 k2 k3 n k5 hm hs=>
   S![Bool.and_eq_true,beq_iff_eq,Bool.not_eq_true']at q;o!⟨⟨⟨⟨⟨⟨rfl,rfl⟩,Gh⟩,K6⟩,tl⟩,hok⟩,v8⟩:=q;rcases cd with⟨nm,bs,mro,ns,qn,ash,sn,sub,ab,col,del⟩;dsimp only at hm Gh hok v8 K6;subst hm Gh K6;h! es:sl=#[k0,k1,k2,k3,some (.builtin n),k5]:=by
    rcases sl with⟨l⟩;simp only at hs;rw[hs]
   subst es;r!\(bm,ns,nm,qn,bs,sn,sub,ab,col,dd,k0,k1,k2,k3,k5,λh X=>?_);h! G:h.Ns ns (h.nsMap ns):=.of_isNs (PySem.W.isNs_of_in X hok);~\(X _ _ ho,PySem.W.tail_of_in X tl,_,G,alW X G v8)
  next=>c! q
 next=>c! q
structure vI(K:PySem.W.Frag)(C fI:Addr)(field:Str):Prop where
 cls:JX K C fI [.type "ValueError",.type "Exception",.type "BaseException",.type "object"] "ValueError.__new__"=true
 fn:PySem.W.isFn K (.ref fI)=true
 kp:PySem.W.keepIn K (.ref C)=true
 sa:PySem.W.findIn K (.ref C) "__setattr__"=some (some (.builtin "object.__setattr__"))
 ga:PySem.W.findIn K (.ref C) "__getattribute__"=some (some (.builtin "BaseException.__getattribute__"))
 gn:PySem.W.findIn K (.ref C) "__getattr__"=some none
 fl:PySem.W.findIn K (.ref C) field=some none
T! HR{K:PySem.W.Frag}{h:Heap}{C:Addr}{n:Str}{y:Option Value}(X:K.In h)(e:PySem.W.findIn K (.ref C) n=some y):qi h C n y:=λM A E g d t os Q hq=>(PySem.W.looks_findIn (M:=M) X e).here (s:=\(h,g,d,t,os)) hq
T! aeL{h:Heap}{x:Addr}:∀{bm:List Value},OwnTail h [.type "ValueError",.type "Exception",.type "BaseException",.type "object"] bm->refuseLoop (.ref x) "__setattr__" bm=pure ()
 |_,.base=>PySem.F.store_ValueError.passes (.ref x)
 |_,.own _ _ _ t=>by rw[refuseLoop_ref];~aeL t
D! o6(C:Addr)(field:Str):Sp:=λvs H Q _=>∃(e t:Addr) (v:V),vs=[.ref e,v]/\H e=some (o5 e C t none)/\∀dx,H dx=none->dx≠e->Q .non (upd (upd H e (o5 e C t (some dx))) dx (.xd [(field,v)]))
section
variable{X:Cx}{o value:Expr}{field:Str}{pos pos':Pos}{ta tv:TE}{C fI:Addr}
D! apu(C:Addr)(ta tv:TE)(field:Str):TS:=λD σ H=>tv σ H λy H1=>ta σ H1 λx H2=>∃e t,x=.ref e/\H2 e=some (o5 e C t none)/\∀dx,H2 dx=none->dx≠e->D.nx σ (upd (upd H2 e (o5 e C t (some dx))) dx (.xd [(field,y)]))
T! aos(c:vI X.K C fI field)(ha:PE X o ta)(hv:PE X value tv)(hs:swapsWith value (some (.Attribute o field pos')) pos.line X.env=pure false)(hex:X.ex=[]:=by rfl):PS X (.Assign [.Attribute o field pos'] value pos) (apu C ta tv field):=by
 intro pins s σ H D I h;r! plainObj_wpAny_Assign_Attribute (bM (hv pins s σ H _ I h) λu s1 \(y,H1,I1,r1,q1)=>bM (ha pins s1 σ H1 _ I1 q1) λxv s2 \(x,H2,I2,r2,e,t,ex,he,k)=>?_) hs;subst ex;c! r2;o!⟨bm,N,nm,qn,bs,sn,sub,ab,col,dd,k0,k1,k2,k3,k5,all⟩:=Q5 c.cls;o!⟨hC,T,mN,hN,hi⟩:=all _ I2.eY;o!⟨hx,_,_⟩:=I2.hok e _ he;h! Li:s2.heap.get? e=some {cls:=.ref C,dict:=none,data:=.fields #[.ref t,.none,.none,.none,.bool false,.none]}:=hx;o!⟨hp,g,d,tk,os⟩:=s2;r! aqx hC (T.hasType (by rfl)) (aeL T) (HR I2.eY c.sa) (HR I2.eY c.fl) Li rfl rfl rfl λh1 wN g1 g2 g3=>?_;h! fresh:H2 hp.objs.size=none:=I2.hok.fresh n!;h! ne:hp.objs.size≠e:=Nat.ne_of_gt (Heap.lt_size Li)
 h! I3:Inv X pins σ (upd H2 e (o5 e C t (some hp.objs.size))) \(h1,g,d,wN,os):=by
  r! I2.write (x:=e) (e:=e) (o:=o5 e C t (some hp.objs.size)) (h':=h1) (t':=wN) (by rw[he];trivial) (.inl rfl) (λb u nb q=>g3 b u nb q) \(_,g1) (aeH g1)
 r!\(σ,_,I3.afQ (e:=hp.objs.size) (o:=.xd [(field,y)]) (I2.Tc (Heap.get?_none_of_le n!) hex) ?_ ?_,k _ fresh ne);·rw[cD ne];~fresh
 ·r!\(_,g2,λf=>?_)
  show jY (List.lookup f [(field,y)]) (if f=field then some u else none);by_cases z:f=field
  ·subst z
   rw[if_pos rfl];simp[List.lookup,jY];~r1
  ·rw[if_neg z]
   h!:(f==field)=false:=by simpa using z
   simp[List.lookup,this,jY]
end
section
variable{P:Program}{w:World}{K:PySem.W.Frag}{mg:G!}{base:Heap}{N:List Str}{qual:Str}{scope:Scope}{f:Addr}{cd:Value}{A:Around}{outer:List Env}{s:Shared}{H:Hp}{E:XK}
D! aqZ(E:XK)(C:Addr)(field:Str)(t:TA):TS:=λ_ σ H=>t σ H λvs H1=>∃v,vs=[v]/\∀dx,H1 dx=none->E (.ref C) (some dx) (upd H1 dx (.xd [(field,v)]))
T! aiU{H:Hp}{e dx:Addr}{a b c:HO}(he:H e=none)(ne:dx≠e):drop (upd (upd (upd H e a) e b) dx c) e=upd H dx c:=by
 funext y;u! drop;by_cases z:y=e;·subst z;rw[if_pos rfl,cD (Ne.symm ne)];~he.symm
 ·rw[if_neg z]
  by_cases z2:y=dx;·subst z2;rw[gG,gG]
  ·rw[cD z2,cD z2,cD z,cD z]
T! ajo{K:PySem.W.Frag}{h:Heap}{fI:Addr}(X:K.In h)(q:PySem.W.isFn K (.ref fI)=true):∃oI,h.get? fI=some oI/\oI.cls=.type "function":=by
 h! z:PySem.W.typeIn K (.ref fI)=some (.type "function"):=beq_iff_eq.mp q;o!⟨o,h1,h2⟩:=Option.map_eq_some_iff.mp (show(K.lookup fI).map (·.cls)=some (.type "function")from z);~\(o,X _ _ h1,h2)
T! aow{x:Str}{C fI:Addr}{field:Str}{k:Nat}{En:FuncData}{p1 p2:Str}{np cpos pos:Pos}{arg:Expr}{t:TA}(c:vI K C fI field)(FI:fM P w K mg base mL k fI En [p1,p2] (o6 C field))(bI:Binds K En [p1,p2] [])
    (hr:dI (k+1) (Y!).A)(hg:Gl Y! x)(hm:mg x=some (.ref C))(ha:PA Y! [arg] t)
    (hdb:E!:=by decide)
    (he:starEach [arg] (Y!).env=(false,eval arg (Y!).env)::starEach [] (Y!).env:=by rfl)
    (hpl:(backTo cpos (starEach [] (Y!).env)).any (·.1)=false:=by rfl):
    PS Y! (.Raise (some (.Call (.Name x np) [arg] [] cpos)) none pos) (aqZ E C field t):=by
 intro pins s1 σ H1 D I h;o!⟨bm,NS,nm,qn,bs,sn,sub,ab,col,dd,k0,k1,k2,k3,k5,all⟩:=Q5 c.cls;h! T1:=(all _ I.eY).2.1;rw[arm_exec_Raise]
 r! wpAny_bind (wpAny_standAt (ao9 (C:=C) (nm:=nm) (q:=qn) (N:=NS) (bs:=bs) (bm:=bm) (hdct:=true) (sn:=sn) (sub:=sub) (ab:=ab) (col:=col) (dd:=dd) (k0:=k0) (k1:=k1) (k2:=k2) (k3:=k3) (k5:=k5) (newId:="ValueError.__new__")
  (T1.hasType (by rfl)) (I.ok.hd rfl) (wpAny_bind (wpAny_mono (wpAny_Call_ofName (ym I hg hm ?_ hdb)) (λv s3 z=>wpAny_bind (wpAny_standAt (wpAny_pure z))) λ_ _ z=>z))))
 r! PySem.W.callWith_K (h₀:=base) I.ok.mod.uB c.kp (bM (ha cpos pins s1 σ H1 _ I h) λus s2 \(vs,H2,I2,r,v,ev,kk)=>\(I2.eY,?_)) he hpl;subst ev;o!⟨u,rfl,ru⟩:=vals1 r;o!⟨hC,T,mN,hN,hi⟩:=all _ I2.eY;o!⟨oI,hfI,hfc⟩:=ajo I2.eY c.fn;o!⟨hp,g,d,tk,os⟩:=s2;r! aic PySem.F.excBase_ValueError T hC hN hi hfI hfc (λh1 e mk ge=>?_) (by show 1<=sizeLine;decide);o!⟨tt,hte,_,_⟩:=mk.there;h! na:=I2.Tc mk.new rfl;h! en:H2 e=none:=I2.hok.no mk.new;h! I3:Inv Y! pins σ H2 \(h1,g,d,tk,os):=I2.kept (t':=tk) mk.keeps;h! I4:=I3.afQ (e:=e) (o:=o5 e C tt none) na en (aeH hte)
 r! wpAny_call (codeAny_mono (FI.run _ (Y!).stack \(h1,g,d,tk,os) _ \([.ref e,u],[]) ([.ref e,u]++[]) [.ref e,v] (λv1 H5=>v1=.non/\∃dx,H2 dx=none/\dx≠e/\H5=upd (upd (upd H2 e (o5 e C tt none)) e (o5 e C tt (some dx))) dx (.xd [(field,v)])) E0
  (hr.make C [u] []) (I4.JV.make C [u] []) (bI _ [.ref e,u] I4.eY rfl) (.cons rfl (.cons ru .nil)) \(e,tt,v,rfl,gG,λdx q1 q2=>\(rfl,dx,?_,q2,rfl))) λres s5 hq=>?_)
 ·rw[cD q2]at q1;~q1
 cases res with
 |error ex=>~hq.elim
 |ok fl=>
  cases fl with
  |next=>~False.elim hq
  |brk=>~False.elim hq
  |cont=>~False.elim hq
  |ret u1=>
   o!⟨v1,H5,I5,rv,rfl,dx,q1,q2,rfl⟩:=I4.after hq;h! he5:upd (upd (upd H2 e (o5 e C tt none)) e (o5 e C tt (some dx))) dx (.xd [(field,v)]) e=some (o5 e C tt (some dx)):=by rw[cD (Ne.symm q2),gG]
   o!⟨hx,_,_⟩:=I5.hok e _ he5;h! R0:s5.heap.get? e=some {cls:=.ref C,dict:=some dx,data:=.fields #[.ref tt,.none,.none,.none,.bool false,.none]}:=hx;h! I6:=I5.forget he5;rw[aiU en q2]at I6;r!\(rv,e,_,_,rfl,(all _ I5.eY).1,R0,rfl,rfl,rfl,?_);~aeI I6 R0 na.old rfl rfl rfl (λdx1 z=>by c! z;~\(_,R0,rfl)) (by rw[cD (Ne.symm q2)];~en) (kk dx q1)
end
section
variable{X:Cx}{pins:L!}{σ:St}{H:Hp}{s:Shared}
end
section
variable{X:Cx}{e:Expr}{field:Str}{pos:Pos}{ta:TE}{C fI:Addr}
end
end L2
namespace P2
open PySem L2
inductive D where
 |non|bl(b:Bool)|int(i:Int)|str(x:Str)|ty(n:String)|ref(a:Addr)
 |tup(ds:List D)|lst(ds:List D)|exc(c:Addr)(ns:List Str)(ds:List D)
inductive R(α:Type) where
 |ok(a:α)|ex(c:Addr)(ns:List Str)(ds:List D)|bad
D! R.bind{α β:Type}:R α->(α->R β)->R β
 |.ok a,f=>f a
 |.ex c ns ds,_=>.ex c ns ds
 |.bad,_=>.bad
T! aan{α β:Type}{r:R α}{g:α->R β}{y:β}(h:r.bind g=.ok y):∃x,r=.ok x/\g x=.ok y:=by
 cases r with
 |ok x=>~\(x,rfl,h)
 |ex c ns ds=>c! h
 |bad=>c! h
D! KL(K:W.Frag)(a:Addr)(vs:List V):Prop:=∃(its:List Value) (n:Nat),K.lookup a=some {cls:=.type "list",data:=.seq its.toArray n}/\its.length<=sizeLine/\Vals vs its
T! KL.sq{K:W.Frag}{a:Addr}{vs:List V}{H:Hp}(h:KL K a vs):jy K H a vs:=let\(its,n,h1,h2,h3):=h;.inr \(_,its.toArray,n,h1,rfl,rfl,rfl,by simpa using h2,by simpa using h3)
D! KT(K:W.Frag)(a:Addr)(vs:List V):Prop:=∃(o:Obj) (its:Array Value) (n:Nat),K.lookup a=some o/\o.cls=.type "tuple"/\o.data=.seq its n/\its.size<=sizeLine/\Vals vs its.toList
D! namesOf(K:W.Frag):List Str:=match K.lookup mainGlobals with
 |some \(_,_,.dict es _,_)=>es.toList.filterMap λe=>match e.key with
  |.str x _=>some x
  |_=>none
 |_=>[]
D! aoh(K:W.Frag)(x:Str):Bool:=match W.nsIn K mainGlobals x with
 |some (some (.ref f))=>(match K.lookup f with
  |some \(_,_,.func fd,_)=>(match fd.defaults,fd.kwdefaults with
   |.none,.none=>true
   |_,_=>false)
  |_=>false)
 |_=>false
D! j9(K:W.Frag):List (Str×Addr×Addr):=(namesOf K).filterMap λx=>if aoh K x then(W.tabIn K x).map λq=>(x,q.1,q.2)else none
D! kJ(c:Addr)(q:Str):HO:=.ext λh=>h.CodeRec (.ref c) q
D! jZ(K:W.Frag)(H:Hp):Prop:=∀t∈j9 K,∃ps,H t.2.2=some (.iZ ps)/\TriplesOk ps.toList/\∀pos cv,codeAmong pos ps.toList=some cv->∃c',cv=.ref c'/\H c'=some (kJ c' (t.1++".<locals>.<lambda>"))
D! NT(o:HO):Prop:=∀ps,o≠.iZ ps
T! uD{l:List V}:NT (.lst l):=λ_ h=>nomatch h
T! alZ{l:List V}:NT (.tup l):=λ_ h=>nomatch h
T! acM{o:Obj}{u:HO}:NT (.nP o u):=λ_ h=>nomatch h
T! Mm{l:List (Str×V)}:NT (.xd l):=λ_ h=>nomatch h
T! Ml{φ:Heap->Prop}:NT (.ext φ):=λ_ h=>nomatch h
structure gr(K:W.Frag)(H H':Hp):Prop where
 at':∀b o,NT o->H b=some o->H' b=some o
 fr:∀b,H' b=none->H b=none
 tt:jZ K H->jZ K H'
T! gr.refl{K:W.Frag}(H:Hp):gr K H H:=\(λ_ _ _ h=>h,λ_ h=>h,λh=>h)
T! gr.trans{K:W.Frag}{H H1 H2:Hp}(a:gr K H H1)(b:gr K H1 H2):gr K H H2:=\(λc o n h=>b.at' c o n (a.at' c o n h),λc h=>a.fr c (b.fr c h),λh=>b.tt (a.tt h))
T! gr.free{K:W.Frag}{H H':Hp}(e:gr K H H'){l:Addr}(h:H' l=Option.none):H l=Option.none:=e.fr l h
T! jZ.off{K:W.Frag}{H H':Hp}{p:Addr}(t:jZ K H)(hp:∀ps,H p≠some (.iZ ps))(hc:∀q,H p≠some (kJ p q))(e:∀b,b≠p->H' b=H b):jZ K H':=λx hx=>by
 o!⟨ps,h1,h2,h3⟩:=t x hx;r!\(ps,by rw[e _ λw=>hp ps (by rw[<-w];~h1)];~h1,h2,λpos cv e0=>?_);o!⟨c',e1,e2⟩:=h3 pos cv e0;~\(c',e1,by rw[e _ λw=>hc _ (by rw[<-w];~e2)];~e2)
T! Lz{H:Hp}{p:Addr}{l:List V}(h:H p=some (.lst l)):(∀ps,H p≠some (.iZ ps))/\∀q,H p≠some (kJ p q):=
 \(λps w=>(by rw[h]at w;~nomatch w),λq w=>(by rw[h]at w;u! kJ at w;~nomatch w))
T! jZ.upd{K:W.Frag}{H:Hp}{p:Addr}{o:HO}(t:jZ K H)(hp:∀ps,H p≠some (.iZ ps))(hc:∀q,H p≠some (kJ p q)):jZ K (upd H p o):=λx hx=>by
 o!⟨ps,h1,h2,h3⟩:=t x hx;r!\(ps,by rw[cD λw=>hp ps (by rw[<-w];~h1)];~h1,h2,λpos cv e=>?_);o!⟨c',e1,e2⟩:=h3 pos cv e;~\(c',e1,by rw[cD λw=>hc _ (by rw[<-w];~e2)];~e2)
mutual
inductive Rep(K:W.Frag)(al:Addr->Prop)(H:Hp):V->D->Prop
 |non:Rep K al H .non .non
 |bl (b:Bool):Rep K al H (.bl b) (.bl b)
 |int (i:Int):Rep K al H (.int i) (.int i)
 |str (x:Str):Rep K al H (.str x) (.str x)
 |ty (n:String):Rep K al H (.ty n) (.ty n)
 |ref (a:Addr):Rep K al H (.ref a) (.ref a)
 |tup {a:Addr} {vs:List V} {ds:List D}:(al a/\Rd H a (.tup vs))\/KT K a vs->bz K al H vs ds->Rep K al H (.ref a) (.tup ds)
 |lst {a:Addr} {vs:List V} {ds:List D}:(al a/\Rd H a (.lst vs))\/KL K a vs->bz K al H vs ds->Rep K al H (.ref a) (.lst ds)
 |exc {a c dx:Addr} {ns:List Str} {vs:List V} {ds:List D}:al a->H a=some (JZ a c (some dx))->al dx->H dx=some (.xd (ns.zip vs))->bz K al H vs ds->Rep K al H (.ref a) (.exc c ns ds)
 |El {a c:Addr}:al a->H a=some (JZ a c none)->Rep K al H (.ref a) (.exc c [] [])
inductive bz(K:W.Frag)(al:Addr->Prop)(H:Hp):List V->List D->Prop
 |nil:bz K al H [] []
 |cons {v:V} {d:D} {vs:List V} {ds:List D}:Rep K al H v d->bz K al H vs ds->bz K al H (v::vs) (d::ds)
end
D! Xt(al:Addr->Prop)(H:Hp)(aG:Addr->Prop)(H':Hp):Prop:=∀a o,NT o->al a->H a=some o->aG a/\H' a=some o
T! Xt.refl{al:Addr->Prop}{H:Hp}:Xt al H al H:=λ_ _ _ h e=>\(h,e)
T! Xt.trans{al bW cI:Addr->Prop}{H H1 H2:Hp}(x:Xt al H bW H1)(y:Xt bW H1 cI H2):Xt al H cI H2:=λa o n h e=>y a o n (x a o n h e).1 (x a o n h e).2
T! Xt.of{K:W.Frag}{al:Addr->Prop}{H H':Hp}(s:gr K H H'):Xt al H al H':=λa o n h e=>\(h,s.at' a o n e)
T! Xt.sub{al aG:Addr->Prop}{H:Hp}(s:∀a,al a->aG a):Xt al H aG H:=λa o _ h e=>\(s a h,e)
T! aeJ{al aG:Addr->Prop}{H H':Hp}{a:Addr}{u:HO}(h:Xt al H aG H')(n:NT u)(z:al a/\Rd H a u):aG a/\Rd H' a u:=by
 o!⟨z1,z2|⟨o,z2⟩⟩:=z;·~\((h a _ n z1 z2).1,.inl (h a _ n z1 z2).2)
 ·~\((h a _ acM z1 z2).1,.inr \(o,(h a _ acM z1 z2).2))
mutual
theorem Rep.mv{K:W.Frag}{al aG:Addr->Prop}{H H':Hp}(h:Xt al H aG H'):∀{v:V} {d:D},Rep K al H v d->Rep K aG H' v d
 |_,_,.non=>.non
 |_,_,.bl b=>.bl b
 |_,_,.int b=>.int b
 |_,_,.str b=>.str b
 |_,_,.ty b=>.ty b
 |_,_,.ref b=>.ref b
 |_,_,.tup p q=>.tup (p.elim (λz=>.inl (aeJ h alZ z)) .inr) (q.mv h)
 |_,_,.lst p q=>.lst (p.elim (λz=>.inl (aeJ h uD z)) .inr) (q.mv h)
 |_,_,.exc p1 p2 p3 p4 q=>.exc (h _ _ Ml p1 p2).1 (h _ _ Ml p1 p2).2 (h _ _ Mm p3 p4).1 (h _ _ Mm p3 p4).2 (q.mv h)
 |_,_,.El p1 p2=>.El (h _ _ Ml p1 p2).1 (h _ _ Ml p1 p2).2
theorem bz.mv{K:W.Frag}{al aG:Addr->Prop}{H H':Hp}(h:Xt al H aG H'):∀{v:List V} {d:List D},bz K al H v d->bz K aG H' v d
 |_,_,.nil=>.nil
 |_,_,.cons p q=>.cons (p.mv h) (q.mv h)
end
section
variable{K:W.Frag}{al aG:Addr->Prop}{H H':Hp}{v:V}{d:D}{vs ws:List V}{ds es:List D}
T! Rep.up(r:Rep K al H v d)(s:gr K H H'):Rep K al H' v d:=r.mv (.of s)
T! bz.up(r:bz K al H vs ds)(s:gr K H H'):bz K al H' vs ds:=r.mv (.of s)
T! bz.length(r:bz K al H vs ds):vs.length=ds.length:=by
 induction ds generalizing vs with
 |nil=>c! r;rfl
 |cons d ds ih=>cases r with|cons a b=>rw[List.length_cons,List.length_cons,ih b]
T! bz.append(r:bz K al H vs ds)(q:bz K al H ws es):bz K al H (vs++ws) (ds++es):=by
 induction ds generalizing vs with
 |nil=>c! r;~q
 |cons d ds ih=>cases r with|cons a b=>~.cons a (ih b)
T! bz.get(r:bz K al H vs ds){i:Nat}{x:V}(e:vs[i]?=some x):∃y,ds[i]?=some y/\Rep K al H x y:=by
 induction ds generalizing vs i with
 |nil=>c! r;simp at e
 |cons d ds ih=>
  cases r with
  |cons a b=>
   cases i with
   |zero=>simp at e;subst e;~\(_,rfl,a)
   |succ i=>simpa using ih b (by simpa using e)
T! bz.getD(r:bz K al H vs ds){i:Nat}{y:D}(e:ds[i]?=some y):∃x,vs[i]?=some x/\Rep K al H x y:=by
 h! hl:=r.length;h! hi:i<vs.length:=by rw[hl];~(List.getElem?_eq_some_iff.mp e).1
 o!⟨z,e2,q⟩:=r.get (List.getElem?_eq_getElem hi);rw[e]at e2;c! e2;~\(_,List.getElem?_eq_getElem hi,q)
T! bz.drop(r:bz K al H vs ds)(n:Nat):bz K al H (vs.drop n) (ds.drop n):=by
 induction n generalizing vs ds with
 |zero=>~r
 |succ n ih=>
  cases r with
  |nil=>~.nil
  |cons a b=>~ih b
T! bz.take(r:bz K al H vs ds)(n:Nat):bz K al H (vs.take n) (ds.take n):=by
 induction n generalizing vs ds with
 |zero=>~.nil
 |succ n ih=>
  cases r with
  |nil=>~.nil
  |cons a b=>~.cons a (ih b)
T! Rep.Cy(r:Rep K al H v (.tup ds)):∃a vs,v=.ref a/\lY K H a vs/\bz K al H vs ds:=by
 cases r with
 |tup p q=>~\(_,_,rfl,p.elim (λz=>.inl z.2) .inr,q)
T! Rep.yp(r:Rep K al H v (.lst ds)):∃a vs,v=.ref a/\jy K H a vs/\bz K al H vs ds:=by
 cases r with
 |lst p q=>~\(_,_,rfl,p.elim (λz=>.inl z.2) KL.sq,q)
T! Rep.acs(r:Rep K al H v (.lst ds)):∃a vs,v=.ref a/\(Rd H a (.lst vs)\/KL K a vs)/\bz K al H vs ds:=by
 cases r with
 |lst p q=>~\(_,_,rfl,p.imp (λz=>z.2) id,q)
T! mD{p:Addr}{o:HO}(h:H p=none):gr K H (upd H p o):=\(λb u _ q=>by rw[cD (qL q h)];~q,λb q=>by
    by_cases z:b=p;· rw[z];~h
    · rw[cD z]at q;~q,λt=>t.upd (λps w=>by rw[h]at w;c! w) λq w=>by rw[h]at w;cases w)
T! bz.XS(r:bz K al H vs ds){p:Addr}(h:H p=none)(a:al p):Rep K al (upd H p (.tup vs)) (.ref p) (.tup ds):=.tup (.inl \(a,.inl gG)) (r.up (mD h))
T! bz.Gy(r:bz K al H vs ds){p:Addr}(h:H p=none)(a:al p):Rep K al (upd H p (.lst vs)) (.ref p) (.lst ds):=.lst (.inl \(a,.inl gG)) (r.up (mD h))
end
inductive Sl where
 |no|sh(d:D)|ow(ds:List D)
A! Ev:=List Sl
structure RS(K:W.Frag)(P:Addr->Prop)(H0:Hp)(al:Addr->Prop)(H:Hp)(σ:St)(ρ:Ev):Prop where
 same:gr K H0 H
 tt:jZ K H
 fresh:∀a,H a=none->al a
 sub:∀a,al a->P a
 pf:∀a,H0 a=none->P a
 len:ρ.length=σ.length
 sh:∀(i:Nat) (d:D),ρ[i]?=some (.sh d)->∃v,σ[i]?=some (some v)/\Rep K al H v d
 ow:∀(i:Nat) (ds:List D),ρ[i]?=some (.ow ds)->∃a vs,σ[i]?=some (some (.ref a))/\H a=some (.lst vs)/\bz K al H vs ds/\¬al a/\H0 a=none
 apart:∀(i j:Nat) (ds Eh:List D) (a:Addr),ρ[i]?=some (.ow ds)->ρ[j]?=some (.ow Eh)->σ[i]?=some (some (.ref a))->σ[j]?=some (some (.ref a))->i=j
section
variable{K:W.Frag}{P al:Addr->Prop}{H0 H H':Hp}{σ:St}{ρ:Ev}
T! RS.grow(r:RS K P H0 al H σ ρ)(s:gr K H H'):RS K P H0 al H' σ ρ where
 same:=r.same.trans s
 tt:=s.tt r.tt
 fresh:=λa h=>r.fresh a (s.free h)
 sub:=r.sub
 pf:=r.pf
 len:=r.len
 sh:=λi d e=>let\(v,a,b):=r.sh i d e;\(v,a,b.up s)
 ow:=λi ds e=>let\(a,vs,h1,h2,h3,h4):=r.ow i ds e;\(a,vs,h1,s.at' _ _ uD h2,h3.up s,h4)
 apart:=r.apart
T! RS.set(r:RS K P H0 al H σ ρ){i:Nat}{v:V}{d:D}(hi:i<ρ.length)(q:Rep K al H v d):RS K P H0 al H (σ.set i (some v)) (ρ.set i (.sh d)) where
 same:=r.same
 tt:=r.tt
 fresh:=r.fresh
 sub:=r.sub
 pf:=r.pf
 len:=by rw[List.length_set,List.length_set];~r.len
 sh:=λj e h=>by
  by_cases z:i=j
  ·subst z
   rw[List.getElem?_set_self hi]at h;c! h;~\(v,List.getElem?_set_self (by rw[<-r.len];~hi),q)
  ·rw[List.getElem?_set_ne z]at h
   o!⟨w,a,b⟩:=r.sh j e h;~\(w,by rw[List.getElem?_set_ne z];~a,b)
 ow:=λj ds h=>by
  by_cases z:i=j
  ·subst z
   rw[List.getElem?_set_self hi]at h;c! h
  ·rw[List.getElem?_set_ne z]at h
   o!⟨a,vs,h1,h2⟩:=r.ow j ds h;~\(a,vs,by rw[List.getElem?_set_ne z];~h1,h2)
 apart:=λj k ds Eh a h1 h2 h3 h4=>by
  by_cases z:i=j;·subst z;rw[List.getElem?_set_self hi]at h1;c! h1
  ·by_cases y:i=k
   ·subst y;rw[List.getElem?_set_self hi]at h2;c! h2
   ·rw[List.getElem?_set_ne z]at h1 h3
    rw[List.getElem?_set_ne y]at h2 h4;~r.apart j k ds Eh a h1 h2 h3 h4
end
D! XR(K:W.Frag)(al:Addr->Prop)(H:Hp)(dx:Option Addr)(ns:List Str)(ds:List D):Prop:=
 match dx with
 |none=>ns=[]/\ds=[]
 |some d=>al d/\∃vs,H d=some (.xd (ns.zip vs))/\bz K al H vs ds
T! XR.mv{K:W.Frag}{al aG:Addr->Prop}{H H':Hp}{dx:Option Addr}{ns:List Str}{ds:List D}(h:Xt al H aG H')(r:XR K al H dx ns ds):XR K aG H' dx ns ds:=by
 cases dx with
 |none=>~r
 |some d=>
  o!⟨a,vs,e,q⟩:=r;~\((h _ _ Mm a e).1,vs,(h _ _ Mm a e).2,q.mv h)
D! Aft{α:Type}(K:W.Frag)(al:Addr->Prop)(E:XK)(H:Hp)(r:R α)(k:α->Hp->Prop):Prop:=
 match r with
 |.ok a=>∀H',gr K H H'->k a H'
 |.ex c ns ds=>∀dx H',gr K H H'->XR K al H' dx ns ds->E (.ref c) dx H'
 |.bad=>False
section
variable{α β:Type}{K:W.Frag}{al:Addr->Prop}{E:XK}{H H':Hp}{r:R α}{k k':α->Hp->Prop}
T! Aft.up(a:Aft K al E H r k)(s:gr K H H'):Aft K al E H' r k:=by
 cases r with
 |ok x=>~λH1 s1=>a H1 (s.trans s1)
 |ex c ns ds=>~λdx H1 s1=>a dx H1 (s.trans s1)
 |bad=>~a
T! Aft.mono(a:Aft K al E H r k)(m:∀x H1,gr K H H1->k x H1->k' x H1):Aft K al E H r k':=by
 cases r with
 |ok x=>~λH1 s1=>m x H1 s1 (a H1 s1)
 |ex c ns ds=>~a
 |bad=>~a
T! Aft.split{g:α->R β}{k:β->Hp->Prop}(a:Aft K al E H (r.bind g) k):Aft K al E H r (λx H1=>Aft K al E H1 (g x) k):=by
 cases r with
 |ok x=>~λH1 s1=>Aft.up a s1
 |ex c ns ds=>~a
 |bad=>~a
end
D! DE(X:Cx)(E:XK)(e:Expr)(f:Ev->R D):Prop:=∃t:TE,PE X e t/\
 ∀P H0 al H σ ρ (Q:VK),RS X.K P H0 al H σ ρ->Aft X.K al E H (f ρ) (λd H'=>∀v,Rep X.K al H' v d->Q v H')->t σ H Q
D! DT(X:Cx)(E:XK)(e:Expr)(f:Ev->R Bool):Prop:=∃t:TT,PT X e t/\
 ∀P H0 al H σ ρ (Q:Bool->Hp->Prop),RS X.K P H0 al H σ ρ->Aft X.K al E H (f ρ) Q->t σ H Q
D! DW(X:Cx)(E:XK)(e:Expr)(f:Ev->R Bool):Prop:=∃t:TT,PW X e t/\
 ∀P H0 al H σ ρ (Q:Bool->Hp->Prop),RS X.K P H0 al H σ ρ->Aft X.K al E H (f ρ) Q->t σ H Q
D! DA(X:Cx)(E:XK)(es:List Expr)(f:Ev->R (List D)):Prop:=∃t:TA,PA X es t/\
 (∀P H0 al H σ ρ (Q:List V->Hp->Prop),RS X.K P H0 al H σ ρ->Aft X.K al E H (f ρ) (λds H'=>∀vs,bz X.K al H' vs ds->Q vs H')->t σ H Q)/\∀ρ ds,f ρ=.ok ds->ds.length=es.length
D! DN(X:Cx)(E:XK)(e:Expr)(f:Ev->R (List D)):Prop:=∃t:TE,PE X e t/\
 ∀P H0 al H σ ρ (Q:VK),RS X.K P H0 al H σ ρ->Aft X.K al E H (f ρ) (λds H'=>∀p vs,H' p=none->bz X.K al H' vs ds->Q (.ref p) (upd H' p (.lst vs)))->t σ H Q
D! je(X:Cx)(E:XK)(op:Value->Value->Sem Value)(g:D->D->R D):Prop:=∃r:R2,gA X op r/\
 ∀al H x y dx dy (Q:VK),(∀a,H a=none->al a)->Rep X.K al H x dx->Rep X.K al H y dy->Aft X.K al E H (g dx dy) (λd H'=>∀v,Rep X.K al H' v d->Q v H')->r x y H Q
D! O3(X:Cx)(E:XK)(g:D->D->R D):Prop:=∃r:R2,rD X r/\
 ∀al H x y dx dy (Q:VK),(∀a,H a=none->al a)->Rep X.K al H x dx->Rep X.K al H y dy->Aft X.K al E H (g dx dy) (λd H'=>∀v,Rep X.K al H' v d->Q v H')->r x y H Q
D! ZX(X:Cx)(E:XK)(op:Value->Sem Value)(g:D->R D):Prop:=∃r:V->Hp->VK->Prop,Jk X op r/\
 ∀al H x dx (Q:VK),(∀a,H a=none->al a)->Rep X.K al H x dx->Aft X.K al E H (g dx) (λd H'=>∀v,Rep X.K al H' v d->Q v H')->r x H Q
D! pC(X:Cx)(E:XK)(f:Value)(g:R!):Prop:=∃r:List V->Hp->VK->Prop,jF X f r/\
 ∀al H xs ds (Q:VK),(∀a,H a=none->al a)->bz X.K al H xs ds->Aft X.K al E H (g ds) (λd H'=>∀v,Rep X.K al H' v d->Q v H')->r xs H Q
D! Dp(X:Cx)(E:XK)(T id:String)(g:D->R!):Prop:=∃r:V->List V->Hp->VK->Prop,xx X id r/\
 ∀al H x xs d ds (Q:VK),(∀a,H a=none->al a)->Rep X.K al H x d->bz X.K al H xs ds->Aft X.K al E H (g d ds) (λd H'=>∀v,Rep X.K al H' v d->Q v H')->r x xs H Q
D! dV(i:Nat):Ev->R D:=λρ=>match ρ[i]? with
 |some (.sh d)=>.ok d
 |_=>.bad
D! dC(d:D):Ev->R D:=λ_=>.ok d
D! d1(g:D->R D)(a:Ev->R D):Ev->R D:=λρ=>(a ρ).bind g
D! d2(g:D->D->R D)(a b:Ev->R D):Ev->R D:=λρ=>(a ρ).bind λx=>(b ρ).bind λy=>g x y
D! tB(d:D):R Bool:=match d with
 |.bl b=>.ok b
 |_=>.bad
D! tT(d:D):R Bool:=match d with
 |.non=>.ok false
 |.bl b=>.ok b
 |.int i=>.ok (i !=0)
 |.str y=>if y.length<=sizeLine then .ok ((y.length:Int)!=0)else .bad
 |.lst ds=>.ok (!ds.isEmpty)
 |.tup ds=>.ok (!ds.isEmpty)
 |_=>.bad
D! b1(t:D->R Bool)(a:Ev->R D):Ev->R Bool:=λρ=>(a ρ).bind t
D! qm(a b:Ev->R Bool):Ev->R Bool:=λρ=>(a ρ).bind λc=>if c=true then b ρ else .ok false
D! kY(a b:Ev->R Bool):Ev->R Bool:=λρ=>(a ρ).bind λc=>if c=true then .ok true else b ρ
D! ji(a:Ev->R Bool):Ev->R Bool:=λρ=>(a ρ).bind λc=>.ok (!c)
D! vQ(a b:Ev->R D):Ev->R D:=λρ=>((a ρ).bind tB).bind λc=>if c=true then b ρ else .ok (.bl false)
D! Ed(a b:Ev->R D):Ev->R D:=λρ=>((a ρ).bind tB).bind λc=>if c=true then .ok (.bl true)else b ρ
D! vR(a:Ev->R D):Ev->R D:=λρ=>((a ρ).bind tB).bind λc=>.ok (.bl (!c))
D! nJ(c:Ev->R Bool)(a b:Ev->R D):Ev->R D:=λρ=>(c ρ).bind λk=>if k=true then a ρ else b ρ
D! aB:Ev->R (List D):=λ_=>.ok []
D! ak(a:Ev->R D)(r:Ev->R (List D)):Ev->R (List D):=λρ=>(a ρ).bind λx=>(r ρ).bind λxs=>.ok (x::xs)
D! dA(g:R!)(a:Ev->R (List D)):Ev->R D:=λρ=>(a ρ).bind g
D! bK(ds:List D):R D:=if ds.length<=sizeLine then .ok (.tup ds)else .bad
D! jM(ds:List D):R (List D):=if ds.length<=sizeLine then .ok ds else .bad
D! jh(g:Ev->R (List D)):Ev->R D:=λρ=>(g ρ).bind λds=>.ok (.lst ds)
section
variable{X:Cx}{E:XK}{e a b c:Expr}{f fa fb:Ev->R D}{pos:Pos}
T! au(i:Nat){x:Str}(hN:X.N[i]?=some x:=by rfl)(hv:zm X.env.scope x:=by first|~Or.inl rfl|~Or.inr l!|~Or.inr (Or.inr rfl))(hd:E!:=by decide)
    (hcd:(x==("__classdict__":Str))=false:=by decide):DE X E (.Name x pos) (dV i):=by
 r!\(_,Bv hN hv hd hcd,λP H0 al H σ ρ Q r h=>?_);u! dV at h;cases q:ρ[i]? with
 |none=>rw[q]at h;~h.elim
 |some s=>
  cases s with
  |sh d=>
   rw[q]at h;o!⟨v,e1,e2⟩:=r.sh i d q;~\(v,e1,h H (.refl H) v e2)
  |no=>rw[q]at h;~h.elim
  |ow _=>rw[q]at h;~h.elim
T! aD{i j}:DE X E (.Constant (.int i) j pos) (dC (.int i)):=\(_,anU,λ_ _ _ H _ _ _ _ h=>h H (.refl H) _ (.int i))
T! vU{i j}:DE X E (.Constant (.bool i) j pos) (dC (.bl i)):=\(_,anJ,λ_ _ _ H _ _ _ _ h=>h H (.refl H) _ (.bl i))
T! aiM{j}:DE X E (.Constant .none j pos) (dC .non):=\(_,an0,λ_ _ _ H _ _ _ _ h=>h H (.refl H) _ .non)
T! aK{i j}:DE X E (.Constant (.str i) j pos) (dC (.str i)):=\(_,ada,λ_ _ _ H _ _ _ _ h=>h H (.refl H) _ (.str i))
T! QJ{x:Str}{v:V}{d:D}{u:Value}(hg:Gl X x)(hm:X.mg x=some u)(r:RelV v u)(hd:∀al H,Rep X.K al H v d)(hdb:E!:=by decide):DE X E (.Name x pos) (dC d):=
 \(_,anT hg hm r hdb,λ_ _ al H _ _ _ _ h=>h H (.refl H) _ (hd al H))
T! rZ{x:Str}{n:String}(hg:Gl X x)(hm:X.mg x=none)(hv:bootBuiltins x=some (.type n))(hn:x≠"__name__":=by decide)(hd:E!:=by decide):DE X E (.Name x pos) (dC (.ty n)):=
 \(_,anK (v:=.ty n) hg hm hv rfl hn hd,λ_ _ al H _ _ _ _ h=>h H (.refl H) _ (.ty n))
T! aX{op:Operator}{g:D->D->R D}(ho:je X E (binaryOp op) g)(ha:DE X E a fa)(hb:DE X E b fb):DE X E (.BinOp a op b pos) (d2 g fa fb):=by
 o!⟨r,ro,rr⟩:=ho;o!⟨ta,pa,ra⟩:=ha;o!⟨tb,pb,rb⟩:=hb;r!\(_,ac9 ro pa pb,λP H0 al H σ ρ Q s h=>ra _ _ _ _ _ _ _ s (Aft.mono (Aft.split h) λx H1 s1 h1 v rv=>rb _ _ _ _ _ _ _ (s.grow s1) (Aft.mono (Aft.split h1) λy H2 s2 h2 u ru=>?_)));~rr _ _ _ _ _ _ _ ((s.grow s1).grow s2).fresh (rv.up s2) ru h2
T! aaP{op:UnaryOp}{g:D->R D}(ho:ZX X E (unaryOp op) g)(ha:DE X E a fa):DE X E (.UnaryOp op a pos) (d1 g fa):=by
 o!⟨r,ro,rr⟩:=ho;o!⟨ta,pa,ra⟩:=ha;~\(_,an6 ro pa,λP H0 al H σ ρ Q s h=>ra _ _ _ _ _ _ _ s (Aft.mono (Aft.split h) λx H1 s1 h1 v rv=>rr _ _ _ _ _ (s.grow s1).fresh rv h1))
T! rW{op:CmpOp}{g:D->D->R D}(ho:je X E (compareOp op) g)(ha:DE X E a fa)(hb:DE X E b fb)(hm:behindInMarks op b=false:=by first|~Tf _|with_unfolding_all rfl):DE X E (.Compare a [op] [b] pos) (d2 g fa fb):=by
 o!⟨r,ro,rr⟩:=ho;o!⟨ta,pa,ra⟩:=ha;o!⟨tb,pb,rb⟩:=hb;r!\(_,anO ro pa pb hm,λP H0 al H σ ρ Q s h=>ra _ _ _ _ _ _ _ s (Aft.mono (Aft.split h) λx H1 s1 h1 v rv=>rb _ _ _ _ _ _ _ (s.grow s1) (Aft.mono (Aft.split h1) λy H2 s2 h2 u ru=>?_)));~rr _ _ _ _ _ _ _ ((s.grow s1).grow s2).fresh (rv.up s2) ru h2
T! Ht{K:W.Frag}{al:Addr->Prop}{H:Hp}{E:XK}{v:V}{d:D}{k:Bool->Hp->Prop}(r:Rep K al H v d)(h:Aft K al E H (tB d) k):∃c,v=.bl c/\k c H:=by
 cases r with
 |bl b=>~\(b,rfl,h H (.refl H))
 |_=>~(h:False).elim
T! bY{op:CmpOp}{g:D->D->R D}(ho:je X E (compareOp op) g)(ha:DE X E a fa)(hb:DE X E b fb)(hm:behindInMarks op b=false:=by first|~Tf _|with_unfolding_all rfl):DT X E (.Compare a [op] [b] pos) (b1 tB (d2 g fa fb)):=by
 o!⟨r,ro,rr⟩:=ho;o!⟨ta,pa,ra⟩:=ha;o!⟨tb,pb,rb⟩:=hb;r!\(_,adv ro pa pb hm,λP H0 al H σ ρ Q s h=>ra _ _ _ _ _ _ _ s (Aft.mono (Aft.split (Aft.split h)) λx H1 s1 h1 v rv=>?_));r! rb _ _ _ _ _ _ _ (s.grow s1) (Aft.mono (Aft.split (g:=λy=>g x y) (k:=λd H2=>Aft X.K al E H2 (tB d) Q) ?_) λy H2 s2 h2 u ru=>?_);·~h1
 ·~rr _ _ _ _ _ _ _ ((s.grow s1).grow s2).fresh (rv.up s2) ru (Aft.mono h2 λd H3 s3 h3 w lQ=>Ht lQ h3)
T! aph{K:W.Frag}{al:Addr->Prop}{H:Hp}{E:XK}{v:V}{d:D}{k:Bool->Hp->Prop}(r:Rep K al H v d)(h:Aft K al E H (tT d) k):∃c,Pn K v H c/\k c H:=by
 cases r with
 |non=>~\(_,rfl,h H (.refl H))
 |bl b=>~\(_,rfl,h H (.refl H))
 |int b=>~\(_,rfl,h H (.refl H))
 |str b=>
  u! tT at h;by_cases z:b.length<=sizeLine
  ·S![z,if_true]at h
   ~\(_,\(z,rfl),h H (.refl H))
  ·S![z,if_false]at h
   ~h.elim
 |tup p q=>
  r!\(_,.inr (.inl \(_,p.elim (λz=>.inl z.2) .inr,?_)),h H (.refl H));c! q<;>rfl
 |lst p q=>
  r!\(_,.inl \(_,p.elim (λz=>.inl z.2) KL.sq,?_),h H (.refl H));c! q<;>rfl
 |_=>~(h:False).elim
T! mj(ha:DE X E e fa)(he:∀whole,isTrue e X.env whole=(do let v<-whole;standAt e.pos;holding [v] (truthy v)):=by intro _;rfl):DT X E e (b1 tT fa):=by
 o!⟨ta,pa,ra⟩:=ha;~\(_,aoB pa he,λP H0 al H σ ρ Q s h=>ra _ _ _ _ _ _ _ s (Aft.mono (Aft.split h) λx H1 s1 h1 v rv=>aph rv h1))
variable{ga gb:Ev->R Bool}{rest:List Expr}
T! DW.dt(h:DW X E e ga):DT X E e ga:=let\(t,p,r):=h;\(t,p.pt,r)
T! Ej(h:DT X E a ga):DW X E (.BoolOp .And [a] pos) ga:=let\(t,p,r):=h;\(t,ady p,r)
T! vX(h:DT X E a ga):DW X E (.BoolOp .Or [a] pos) ga:=let\(t,p,r):=h;\(t,aoG p,r)
T! Ei(ha:DT X E a ga)(hb:DW X E (.BoolOp .And (b::rest) pos) gb):DW X E (.BoolOp .And (a::b::rest) pos) (qm ga gb):=by
 o!⟨ta,pa,ra⟩:=ha;o!⟨tb,pb,rb⟩:=hb;r!\(_,adx pa pb,λP H0 al H σ ρ Q s h=>ra _ _ _ _ _ _ _ s (Aft.mono (Aft.split h) λc H1 s1 h1=>?_));cases c with
 |true=>~qJ (rb _ _ _ _ _ _ _ (s.grow s1) h1)
 |false=>~qI (h1 H1 (.refl H1))
T! qx(ha:DT X E a ga)(hb:DW X E (.BoolOp .Or (b::rest) pos) gb):DW X E (.BoolOp .Or (a::b::rest) pos) (kY ga gb):=by
 o!⟨ta,pa,ra⟩:=ha;o!⟨tb,pb,rb⟩:=hb;r!\(_,aoF pa pb,λP H0 al H σ ρ Q s h=>ra _ _ _ _ _ _ _ s (Aft.mono (Aft.split h) λc H1 s1 h1=>?_));cases c with
 |true=>~qJ (h1 H1 (.refl H1))
 |false=>~qI (rb _ _ _ _ _ _ _ (s.grow s1) h1)
T! pH(ha:DT X E a ga):DT X E (.UnaryOp .Not a pos) (ji ga):=by
 o!⟨ta,pa,ra⟩:=ha;~\(_,aoz pa,λP H0 al H σ ρ Q s h=>ra _ _ _ _ _ _ _ s (Aft.mono (Aft.split h) λc H1 s1 h1=>h1 H1 (.refl H1)))
T! xJ{op:BoolOp}(h:DE X E a fa):DE X E (.BoolOp op [a] pos) fa:=let\(t,p,r):=h;\(t,an2 p,r)
T! zT(ha:DE X E a fa)(hb:DE X E (.BoolOp .And (b::rest) pos) fb):DE X E (.BoolOp .And (a::b::rest) pos) (vQ fa fb):=by
 o!⟨ta,pa,ra⟩:=ha;o!⟨tb,pb,rb⟩:=hb;r!\(_,anI pa pb,λP H0 al H σ ρ Q s h=>ra _ _ _ _ _ _ _ s (Aft.mono (Aft.split (Aft.split h)) λx H1 s1 h1 v rv=>?_));o!⟨c,e,h2⟩:=Ht rv h1;r!\(c,e,?_);cases c with
 |true=>~qJ (rb _ _ _ _ _ _ _ (s.grow s1) h2)
 |false=>~qI (h2 H1 (.refl H1) _ (.bl false))
T! aaO(ha:DE X E a fa)(hb:DE X E (.BoolOp .Or (b::rest) pos) fb):DE X E (.BoolOp .Or (a::b::rest) pos) (Ed fa fb):=by
 o!⟨ta,pa,ra⟩:=ha;o!⟨tb,pb,rb⟩:=hb;r!\(_,an4 pa pb,λP H0 al H σ ρ Q s h=>ra _ _ _ _ _ _ _ s (Aft.mono (Aft.split (Aft.split h)) λx H1 s1 h1 v rv=>?_));o!⟨c,e,h2⟩:=Ht rv h1;r!\(c,e,?_);cases c with
 |true=>~qJ (h2 H1 (.refl H1) _ (.bl true))
 |false=>~qI (rb _ _ _ _ _ _ _ (s.grow s1) h2)
T! JM(ha:DE X E a fa):DE X E (.UnaryOp .Not a pos) (vR fa):=by
 o!⟨ta,pa,ra⟩:=ha;r!\(_,an1 pa,λP H0 al H σ ρ Q s h=>ra _ _ _ _ _ _ _ s (Aft.mono (Aft.split (Aft.split h)) λx H1 s1 h1 v rv=>?_));o!⟨c,e,h2⟩:=Ht rv h1;~\(c,e,h2 H1 (.refl H1) _ (.bl _))
T! zU(hc:DT X E c ga)(ha:DE X E a fa)(hb:DE X E b fb):DE X E (.IfExp c a b pos) (nJ ga fa fb):=by
 o!⟨tc,pc,rc⟩:=hc;o!⟨ta,pa,ra⟩:=ha;o!⟨tb,pb,rb⟩:=hb;r!\(_,ac7 pc pa pb,λP H0 al H σ ρ Q s h=>rc _ _ _ _ _ _ _ s (Aft.mono (Aft.split h) λc H1 s1 h1=>?_));cases c with
 |true=>~qJ (ra _ _ _ _ _ _ _ (s.grow s1) h1)
 |false=>~qI (rb _ _ _ _ _ _ _ (s.grow s1) h1)
variable{es:List Expr}{fs:Ev->R (List D)}
T! aF:DA X E [] aB:=\(_,Mx,λ_ _ _ H _ _ _ _ h=>h H (.refl H) _ .nil,λ_ _ h=>by c! h;rfl)
T! aA(ha:DE X E e fa)(hr:DA X E es fs)(hs:W!:=by rfl):DA X E (e::es) (ak fa fs):=by
 o!⟨ta,pa,ra⟩:=ha;o!⟨tb,pb,rb,lb⟩:=hr;r!\(_,Mw pa pb hs,λP H0 al H σ ρ Q s h=>ra _ _ _ _ _ _ _ s (Aft.mono (Aft.split h) λx H1 s1 h1 v rv=>rb _ _ _ _ _ _ _ (s.grow s1) (Aft.mono (Aft.split h1) λy H2 s2 h2 u ru=>?_)),λρ ds h=>?_);·~h2 H2 (.refl H2) _ (.cons (rv.up s2) ru)
 ·o!⟨x,_,h1⟩:=aan h
  o!⟨y,h2,h3⟩:=aan h1;c! h3;rw[List.length_cons,List.length_cons,lb ρ y h2]
T! dG{x1}(ha:DA X E es fs):DE X E (.Tuple es x1 pos) (dA bK fs):=by
 o!⟨ta,pa,ra,_⟩:=ha;r!\(_,adb pa,λP H0 al H σ ρ Q s h=>ra _ _ _ _ _ _ _ s (Aft.mono (Aft.split h) λx H1 s1 h1 v rv=>?_));u! bK at h1;by_cases z:x.length<=sizeLine
 ·rw[if_pos z]at h1
  ~\(by rw[rv.length];~z,λp hp=>h1 _ (mD hp) _ (rv.XS hp ((s.grow s1).fresh p hp)))
 ·rw[if_neg z]at h1
  ~h1.elim
T! sy(ha:DA X E es fs):DN X E (.List es pos) (λρ=>(fs ρ).bind jM):=by
 o!⟨ta,pa,ra,_⟩:=ha;r!\(_,anV pa,λP H0 al H σ ρ Q s h=>ra _ _ _ _ _ _ _ s (Aft.mono (Aft.split h) λx H1 s1 h1 v rv=>?_));u! jM at h1;by_cases z:x.length<=sizeLine
 ·rw[if_pos z]at h1
  ~\(by rw[rv.length];~z,λp hp=>h1 H1 (.refl H1) p v hp rv)
 ·rw[if_neg z]at h1
  ~h1.elim
T! DN.de{g:Ev->R (List D)}(h:DN X E e g):DE X E e (jh g):=by
 o!⟨t,p,r⟩:=h;~\(t,p,λP H0 al H σ ρ Q s h=>r _ _ _ _ _ _ _ s (Aft.mono (Aft.split h) λx H1 s1 h1 p vs hp rv=>h1 _ (mD hp) _ (rv.Gy hp ((s.grow s1).fresh p hp))))
T! bV{g:D->D->R D}(ho:O3 X E g)(ha:DE X E a fa)(hb:DE X E b fb)(hs:Ph b:=by ~λ_ _=>rfl):DE X E (.Subscript a b pos) (d2 g fa fb):=by
 o!⟨r,ro,rr⟩:=ho;o!⟨ta,pa,ra⟩:=ha;o!⟨tb,pb,rb⟩:=hb;r!\(_,ac8 ro pa pb hs,λP H0 al H σ ρ Q s h=>ra _ _ _ _ _ _ _ s (Aft.mono (Aft.split h) λx H1 s1 h1 v rv=>rb _ _ _ _ _ _ _ (s.grow s1) (Aft.mono (Aft.split h1) λy H2 s2 h2 u ru=>?_)));~rr _ _ _ _ _ _ _ ((s.grow s1).grow s2).fresh (rv.up s2) ru h2
variable{x:Str}{p:Pos}
T! dJ{id:String}{g:R!}(hc:pC X E (.builtin id) g)(hg:Gl X x)(hm:X.mg x=none)(hv:bootBuiltins x=some (.builtin id))(ha:DA X E (e::es) fs)(hn:x≠"__name__":=by decide)(hdb:E!:=by decide)
    (he:W!:=by rfl)(hpl:Q!:=by rfl):DE X E (.Call (.Name x p) (e::es) [] pos) (dA g fs):=by
 o!⟨r,rc,rr⟩:=hc;o!⟨ta,pa,ra,_⟩:=ha;~\(_,U3 rc hg hm hv pa hn hdb he hpl,λP H0 al H σ ρ Q s h=>ra _ _ _ _ _ _ _ s (Aft.mono (Aft.split h) λx H1 s1 h1 v rv=>rr _ _ _ _ _ (s.grow s1).fresh rv h1))
T! qu{T:String}{g:R!}(hc:pC X E (.type T) g)(hg:Gl X x)(hm:X.mg x=none)(hv:bootBuiltins x=some (.type T))(ha:DA X E (e::es) fs)(hn:x≠"__name__":=by decide)(hdb:E!:=by decide)
    (he:W!:=by rfl)(hpl:Q!:=by rfl):DE X E (.Call (.Name x p) (e::es) [] pos) (dA g fs):=by
 o!⟨r,rc,rr⟩:=hc;o!⟨ta,pa,ra,_⟩:=ha;~\(_,anN rc hg hm hv pa hn hdb he hpl,λP H0 al H σ ρ Q s h=>ra _ _ _ _ _ _ _ s (Aft.mono (Aft.split h) λx H1 s1 h1 v rv=>rr _ _ _ _ _ (s.grow s1).fresh rv h1))
end
D! bu(n:Nat)(K:W.Frag)(F:R!):Sp:=λvs H Q E=>vs.length=n/\jZ K H/\∃al ds,(∀a,H a=none->al a)/\bz K al H vs ds/\Aft K al E H (F ds) (λd H'=>∀v,Rep K al H' v d->Q v H')
section
variable{X:Cx}{E:XK}{e:Expr}{es:List Expr}{fs:Ev->R (List D)}{x:Str}{p pos:Pos}{k n:Nat}{ps:List Str}{F:R!}
T! cG(G:jG X.prog X.w X.K X.mg X.base (eE X.prog X.w) k x ps (bu n X.K F))(hr:dI k X.A)(hg:Gl X x)(hx:Passes (eE X.prog X.w) X E)(hn:(e::es).length=n)(ha:DA X E (e::es) fs)(hdb:E!:=by decide)
    (he:W!:=by rfl)(hpl:Q!:=by rfl):DE X E (.Call (.Name x p) (e::es) [] pos) (dA F fs):=by
 o!⟨ta,pa,ra,lb⟩:=ha;r!\(_,U4 G hr hg hx pa hdb he hpl,λP H0 al H σ ρ Q s h=>ra _ _ _ _ _ _ _ s ?_);u! dA at h;cases q:fs ρ with
 |ok ds=>
  rw[q]at h;intro H1 s1 vs rv;rw[List.append_nil];~\(by rw[rv.length,lb ρ ds q];~hn,(s.grow s1).tt,al,ds,(s.grow s1).fresh,rv,Aft.up h s1)
 |ex c ns ds=>rw[q]at h;~h
 |bad=>rw[q]at h;~h.elim
end
inductive RT where
 |nx(ρ:Ev)|rt(d:D)|bk(ρ:Ev)|ct(ρ:Ev)|ex(c:Addr)(ns:List Str)(ds:List D)|bad
D! toS{α:Type}(r:R α)(k:α->RT):RT:=match r with
 |.ok a=>k a
 |.ex c ns ds=>.ex c ns ds
 |.bad=>.bad
D! yM(r:RT)(k:Ev->RT):RT:=match r with
 |.nx ρ=>k ρ
 |r=>r
D! gP(K:W.Frag)(P:Addr->Prop)(H0:Hp)(E:XK)(D:Ends)(al:Addr->Prop)(H:Hp):RT->Prop
 |.nx ρ=>∀aG H' σ',Xt al H aG H'->RS K P H0 aG H' σ' ρ->D.nx σ' H'
 |.bk ρ=>∀aG H' σ',Xt al H aG H'->RS K P H0 aG H' σ' ρ->D.bk σ' H'
 |.ct ρ=>∀aG H' σ',Xt al H aG H'->RS K P H0 aG H' σ' ρ->D.ct σ' H'
 |.rt d=>∀v H',gr K H0 H'->Rep K P H' v d->D.rt v H'
 |.ex c ns ds=>∀dx H',gr K H0 H'->XR K P H' dx ns ds->E (.ref c) dx H'
 |.bad=>False
section
variable{K:W.Frag}{P al aG:Addr->Prop}{H0 H H':Hp}{E:XK}{D:Ends}{s:RT}{σ:St}{ρ:Ev}
T! gP.ext(h:gP K P H0 E D al H s)(x:Xt al H aG H'):gP K P H0 E D aG H' s:=by
 cases s with
 |nx ρ=>~λa h1 eQ y r=>h a h1 eQ (x.trans y) r
 |bk ρ=>~λa h1 eQ y r=>h a h1 eQ (x.trans y) r
 |ct ρ=>~λa h1 eQ y r=>h a h1 eQ (x.trans y) r
 |rt d=>~h
 |ex c ns ds=>~h
 |bad=>~h
T! gP.Bq{α:Type}{r:R α}{k:α->RT}(h:gP K P H0 E D al H (toS r k))(s:RS K P H0 al H σ ρ):Aft K al E H r (λx H1=>gP K P H0 E D al H1 (k x)):=by
 cases r with
 |ok x=>~λH1 s1=>gP.ext h (.of s1)
 |ex c ns ds=>~λdx H1 s1 q=>h dx H1 (s.same.trans s1) (q.mv (.sub s.sub))
 |bad=>~h
end
D! DS(X:Cx)(E:XK)(st:Stmt)(g:Ev->RT):Prop:=∃t:TS,PS X st t/\
 ∀P H0 al H σ ρ (D:Ends),RS X.K P H0 al H σ ρ->gP X.K P H0 E D al H (g ρ)->t D σ H
D! rB(X:Cx)(E:XK)(st:List Stmt)(g:Ev->RT):Prop:=∃t:TS,lJ X st t/\
 ∀P H0 al H σ ρ (D:Ends),RS X.K P H0 al H σ ρ->gP X.K P H0 E D al H (g ρ)->t D σ H
D! dj:Ev->RT:=.nx
D! aZ(a b:Ev->RT):Ev->RT:=λρ=>yM (a ρ) b
D! apr(f:Ev->R D):Ev->RT:=λρ=>toS (f ρ) λ_=>.nx ρ
D! bU(f:Ev->R D):Ev->RT:=λρ=>toS (f ρ) .rt
D! bZ(i:Nat)(f:Ev->R D):Ev->RT:=λρ=>toS (f ρ) λd=>if i<ρ.length then .nx (ρ.set i (.sh d))else .bad
D! c7(c:Ev->R Bool)(a b:Ev->RT):Ev->RT:=λρ=>toS (c ρ) λk=>if k=true then a ρ else b ρ
section
variable{X:Cx}{E:XK}{st:Stmt}{rest sa sb:List Stmt}{g u ga gb:Ev->RT}{e c:Expr}{f:Ev->R D}{fc:Ev->R Bool}{pos:Pos}
T! eF:rB X E [] dj:=\(_,adt,λ_ _ al H σ ρ _ s h=>h al H σ .refl s)
T! bH(h:DS X E st g):rB X E [st] g:=let\(t,p,r):=h;\(t,U6 p,r)
T! bC(h1:DS X E st g)(h2:rB X E rest u):rB X E (st::rest) (aZ g u):=by
 o!⟨t1,p1,r1⟩:=h1;o!⟨t2,p2,r2⟩:=h2;r!\(_,adq p1 p2,λP H0 al H σ ρ D s h=>r1 P H0 al H σ ρ _ s ?_);u! aZ at h;cases q:g ρ with
 |nx dW=>
  rw[q]at h;~λaG H' σ' x s'=>r2 P H0 aG H' σ' dW D s' (gP.ext h x)
 |bk dW=>rw[q]at h;~h
 |ct dW=>rw[q]at h;~h
 |rt d=>rw[q]at h;~h
 |ex c ns ds=>rw[q]at h;~h
 |bad=>rw[q]at h;~h
T! cH(he:DE X E e f):DS X E (.Return (some e) pos) (bU f):=by
 o!⟨t,p,r⟩:=he;~\(_,adn p,λP H0 al H σ ρ D s h=>r _ _ _ _ _ _ _ s (Aft.mono (gP.Bq h s) λd H1 s1 h1 v rv=>h1 v H1 (s.same.trans s1) (rv.mv (.sub s.sub))))
T! cV(i:Nat){x:Str}{pos':Pos}(hN:X.N.Nodup)(hi:X.N[i]?=some x)(hx:Loc X.env.scope x)(he:DE X E e f)(hs:swapsWith e (some (.Name x pos')) pos.line X.env=pure false:=by rfl)(hf:V!:=by O!):
    DS X E (.Assign [.Name x pos'] e pos) (bZ i f):=by
 o!⟨t,p,r⟩:=he;r!\(_,ado hN hi hx p hs hf,λP H0 al H σ ρ D s h=>r _ _ _ _ _ _ _ s (Aft.mono (gP.Bq h s) λd H1 s1 h1 v rv=>?_));by_cases z:i<ρ.length
 ·S![z,if_true]at h1
  ~h1 al H1 _ .refl ((s.grow s1).set z rv)
 ·S![z,if_false]at h1
  ~h1.elim
T! dX(hc:DT X E c fc)(ha:rB X E sa ga)(hb:rB X E sb gb):DS X E (.If c sa sb pos) (c7 fc ga gb):=by
 o!⟨tc,pc,rc⟩:=hc;o!⟨ta,pa,ra⟩:=ha;o!⟨tb,pb,rb⟩:=hb;r!\(_,adm pc pa pb,λP H0 al H σ ρ D s h=>rc _ _ _ _ _ _ _ s (Aft.mono (gP.Bq h s) λk H1 s1 h1=>?_));cases k with
 |true=>~qJ (ra _ _ _ _ _ _ _ (s.grow s1) h1)
 |false=>~qI (rb _ _ _ _ _ _ _ (s.grow s1) h1)
D! turnT(r:RT)(k:Ev->RT):RT:=match r with
 |.nx ρ=>k ρ
 |.ct ρ=>k ρ
 |.bk ρ=>.nx ρ
 |r=>r
D! qX(c:Ev->R Bool)(b:Ev->RT):Nat->Ev->RT
 |0,_=>.bad
 |n+1,ρ=>toS (c ρ) λk=>if k=true then turnT (b ρ) (qX c b n)else .nx ρ
T! afU{K:W.Frag}{P al:Addr->Prop}{H0 H:Hp}{D:Ends}{r:RT}{k:Ev->RT}{N:St->Hp->Prop}(h:gP K P H0 E D al H (turnT r k))
    (hN:∀aG H' σ' cP,Xt al H aG H'->RS K P H0 aG H' σ' cP->gP K P H0 E D aG H' (k cP)->N σ' H'):gP K P H0 E {D with nx:=N,ct:=N,bk:=D.nx} al H r:=by
 cases r with
 |nx ρ=>~λaG H' σ' x s=>hN aG H' σ' ρ x s (gP.ext h x)
 |ct ρ=>~λaG H' σ' x s=>hN aG H' σ' ρ x s (gP.ext h x)
 |bk ρ=>~h
 |rt d=>~h
 |ex c ns ds=>~h
 |bad=>~h
T! aa2(n:Nat)(hp:PassesOwn M! X.A X.env X.xe)(hc:DT X E c fc)(hb:rB X E sb gb):DS X E (.While c sb [] pos) (qX fc gb n):=by
 o!⟨tc,pc,rc⟩:=hc;o!⟨tb,pb,rb⟩:=hb;r!\(_,adp hp pc pb,λP H0 al H σ ρ D s h=>\(λm eQ H1=>∃bW dW,RS X.K P H0 bW H1 eQ dW/\gP X.K P H0 E D bW H1 (qX fc gb m dW),\(n,al,ρ,s,h),?_))
 rintro m eQ H1 ⟨bW,dW,s1,h1⟩
 cases m with
 |zero=>~h1.elim
 |succ m=>
  r! rc _ _ _ _ _ _ _ s1 (Aft.mono (gP.Bq h1 s1) λk H2 s2 h2=>?_);cases k with
  |true=>
   r! qJ \(λσ' H'=>∃bW dW,RS X.K P H0 bW H' σ' dW/\gP X.K P H0 E D bW H' (qX fc gb m dW),λσ' H' z=>\(m,Nat.lt_succ_self m,z),rb _ _ _ _ _ _ _ (s1.grow s2) (afU (k:=qX fc gb m) h2 λaG H' σ' cP _ s' h'=>\(aG,cP,s',h')))
  |false=>~qI (h2 bW H2 eQ .refl (s1.grow s2))
end
D! Wk(K:W.Frag)(al:Addr->Prop)(H:Hp)(J:It)(ds:List D):Prop:=∀aG H',Xt al H aG H'->(∀a,H' a=none->aG a)->
 (∀i d,ds[i]?=some d->J.go i H'/\∀x za,J.Oi i H' x za->za=H'/\Rep K aG H' x d)/\∀i,ds.length<=i->J.stop i H'
D! DI(X:Cx)(E:XK)(tg iter:Expr)(f:Ev->R (List D)):Prop:=∃wi:TI,PI X tg iter wi/\
 ∀P H0 al H σ ρ (R:It->Hp->Prop),RS X.K P H0 al H σ ρ->Aft X.K al E H (f ρ) (λds H'=>∀J,Wk X.K al H' J ds->R J H')->wi σ H R
D! Kp(l:List Nat)(σ σ':St):Prop:=σ'.length=σ.length/\∀j,j∉l->σ'[j]?=σ[j]?
D! DG(X:Cx)(tg:Expr)(l:List Nat)(a:D->Ev->Option Ev):Prop:=∃g:TG,PG X tg g/\
 ∀P H0 al H σ ρ v d (Q:St->Hp->Prop),RS X.K P H0 al H σ ρ->Rep X.K al H v d->(∃cP,a d ρ=some cP/\∀σ',Kp l σ σ'->RS X.K P H0 al H σ' cP->Q σ' H)->g v σ H Q
D! gV(i:Nat):D->Ev->Option Ev:=λd ρ=>if i<ρ.length then some (ρ.set i (.sh d))else none
D! toO{α:Type}(r:Option α)(k:α->RT):RT:=match r with
 |some a=>k a
 |none=>.bad
D! oW(a:D->Ev->Option Ev)(b:Ev->RT):List D->Ev->RT
 |[],ρ=>.nx ρ
 |d::r,ρ=>toO (a d ρ) λdW=>turnT (b dW) (oW a b r)
section
variable{X:Cx}{E:XK}{tg iter:Expr}{body:List Stmt}{fi:Ev->R (List D)}{a:D->Ev->Option Ev}{gb:Ev->RT}{pos:Pos}
D! Hy(fi:Ev->R (List D))(a:D->Ev->Option Ev)(gb:Ev->RT):Ev->RT:=λρ=>toS (fi ρ) λds=>oW a gb ds ρ
T! sr(i:Nat){x:Str}(hN:X.N.Nodup)(hi:X.N[i]?=some x)(hx:Loc X.env.scope x)(hf:V!:=by O!):DG X (.Name x pos) [i] (gV i):=by
 r!\(_,ade hN hi hx hf,λP H0 al H σ ρ v d Q s rv h=>?_);o!⟨cP,e,q⟩:=h;u! gV at e;by_cases z:i<ρ.length
 ·rw[if_pos z]at e;c! e
  ~q _ \(List.length_set ..,λj hj=>List.getElem?_set_ne (λw=>hj (by simp[w]))) (s.set z rv)
 ·rw[if_neg z]at e;c! e
T! QV{l:List Nat}(hp:PassesOwn M! X.A X.env X.xe)(hc:X.calm=true)(hi:DI X E tg iter fi)(hg:DG X tg l a)(hb:rB X E body gb)(hs:i!:=by intro _;rfl):
    DS X E (.For tg iter body [] pos) (Hy fi a gb):=by
 o!⟨wi,pi,ri⟩:=hi;o!⟨g,pg,rg⟩:=hg;o!⟨tb,pb,rb⟩:=hb;r!\(_,adl hp hc pi pg pb hs,λP H0 al H σ ρ D s h=>ri _ _ _ _ _ _ _ s (Aft.mono (gP.Bq h s) λds H1 s1 h1 J wk=>?_));r!\(λi m nj H2=>∃cI mK,RS X.K P H0 cI H2 nj mK/\Wk X.K cI H2 J ds/\gP X.K P H0 E D cI H2 (oW a gb (ds.drop i) mK)/\m=ds.length - i,\(_,al,ρ,s.grow s1,wk,h1,rfl),?_)
 rintro i m nj H2 ⟨cI,mK,s2,Ij,h2,rfl⟩
 o!⟨w1,w2⟩:=Ij cI H2 .refl s2.fresh;by_cases hi:i<ds.length
 ·right
  h! ed:ds[i]?=some ds[i]:=List.getElem?_eq_getElem hi;o!⟨go,yl⟩:=w1 i _ ed;rw[List.drop_eq_getElem_cons hi]at h2;r!\(go,λσ' H'=>∃cI mK,RS X.K P H0 cI H' σ' mK/\Wk X.K cI H' J ds/\gP X.K P H0 E D cI H' (oW a gb (ds.drop (i+1)) mK),λσ' H' \(xF,yZ,z1,z2,z3)=>\(ds.length - (i+1),o?,xF,yZ,z1,z2,z3,rfl),λx H3 y=>?_);o!⟨rfl,rx⟩:=yl x H3 y;u! oW at h2;cases q:a ds[i] mK with
  |some yZ=>
   rw[q]at h2;r! rg _ _ _ _ _ _ _ _ _ s2 rx \(yZ,q,λlC _ s3=>rb _ _ _ _ _ _ _ s3 (afU (k:=oW a gb (ds.drop (i+1))) h2 λaG H' σ' cP x' s' h'=>\(aG,cP,s',λPK H4 x4=>Ij PK H4 (x'.trans x4),h')))
  |none=>rw[q]at h2;~h2.elim
 ·left
  h! e:ds.drop i=[]:=List.drop_eq_nil_of_le o?;rw[e]at h2;~\(w2 i o?,h2 cI H2 nj .refl s2)
end
end P2
namespace P2
open PySem L2
D! aM(n:Nat)(ds:List D):Ev:=ds.map .sh++List.replicate (n - ds.length) .no
D! aL:RT->R D
 |.rt d=>.ok d
 |.nx _=>.ok .non
 |.ex c ns ds=>.ex c ns ds
 |_=>.bad
T! apl{K:W.Frag}{al:Addr->Prop}{H:Hp}{vs:List V}{ds:List D}{N:List Str}(tt:jZ K H)(fr:∀a,H a=none->al a)(r:bz K al H vs ds):RS K al H al H (L2.start N vs) (aM N.length ds) where
 same:=.refl H
 tt:=tt
 fresh:=fr
 sub:=λ_ h=>h
 pf:=fr
 len:=by u! L2.start aM;simp[r.length]
 sh:=λi d h=>by
  u! aM at h;by_cases hi:i<ds.length
  ·rw[List.getElem?_append_left (by simpa using hi),List.getElem?_map]at h
   cases q:ds[i]? with
   |none=>rw[q]at h;c! h
   |some y=>
    rw[q]at h;c! h;o!⟨v,e1,e2⟩:=r.getD q;r!\(v,?_,e2);u! L2.start;rw[List.getElem?_append_left (by simpa [r.length]using hi),List.getElem?_map,e1];rfl
  ·rw[List.getElem?_append_right (by simpa using hi),List.getElem?_replicate]at h
   split at h<;>c! h
 ow:=λi d h=>by
  u! aM at h;by_cases hi:i<ds.length
  ·rw[List.getElem?_append_left (by simpa using hi),List.getElem?_map]at h
   cases q:ds[i]? with
   |none=>rw[q]at h;c! h
   |some y=>rw[q]at h;c! h
  ·rw[List.getElem?_append_right (by simpa using hi),List.getElem?_replicate]at h
   split at h<;>c! h
 apart:=λi j d d' a h _ _ _=>by
  u! aM at h;by_cases hi:i<ds.length
  ·rw[List.getElem?_append_left (by simpa using hi),List.getElem?_map]at h
   cases q:ds[i]? with
   |none=>rw[q]at h;c! h
   |some y=>rw[q]at h;c! h
  ·rw[List.getElem?_append_right (by simpa using hi),List.getElem?_replicate]at h
   split at h<;>c! h
section
variable{P:Program}{w:World}{K:W.Frag}{mg:G!}{base:Heap}
T! fK{x:Str}{st:Stmt}{f:Addr}{fd:FuncData}{N ps:List Str}{k:Nat}{g:Ev->RT}(F:cF K x x st f fd)(S:b7 N ps (bf st))
    (body:∀(cdv:Value) (A:Around) (outer:List Env) (s:Shared) (H:Hp) (E:XK),dI k (jK (eE P w) P w K mg base N x (bf st) f cdv A outer s H E).A->rB (jK (eE P w) P w K mg base N x (bf st) f cdv A outer s H E) E (d7 st) g):
    F! (k+1) f fd ps (bu ps.length K λds=>aL (g (aM N.length ds))):=by
 r! F.okX S (λvs H Q E h=>h.1) (λcdv A outer s H vs Q E hr h=>?_);o!⟨hl,tt,al,ds,fr,rv,h⟩:=h;o!⟨t,p,r⟩:=body cdv A outer s H E hr;dsimp only at h;r!\(t,p,r al H al H (L2.start N vs) (aM N.length ds) _ (apl tt fr rv) ?_);cases q:g (aM N.length ds)with
 |nx ρ=>rw[q]at h;~λaG H' σ' _ s'=>h H' s'.same .non .non
 |rt d=>rw[q]at h;~λv H' s' rv=>h H' s' v rv
 |ex c ns es=>rw[q]at h;~h
 |bk ρ=>rw[q]at h;~h.elim
 |ct ρ=>rw[q]at h;~h.elim
 |bad=>rw[q]at h;~h.elim
T! jG.up{j k:Nat}{x:Str}{ps:List Str}{sp:Sp}(G:H! j x ps sp)(h:j<=k):H! k x ps sp:=let\(f,fd,fo,r):=G;\(f,fd,fo.mono h,r)
variable{N:List Str}{qual:Str}{scope:Scope}{f:Addr}{cd:Value}{A:Around}{outer:List Env}{s:Shared}{H:Hp}{E:XK}
end
D! Aw(T:String):D->Bool
 |.str _=>T=="str"
 |.int _=>T=="int"
 |.lst _=>T=="list"
 |_=>false
T! ajG{K:W.Frag}{al:Addr->Prop}{H:Hp}{v:V}{d:D}{T:String}(r:Rep K al H v d)(h:Aw T d=true):Oc K T v H:=by
 cases r with
 |str x=>~beq_iff_eq.mp h
 |int x=>~beq_iff_eq.mp h
 |lst p q=>~.inl \(beq_iff_eq.mp h,_,p.elim (λz=>.inl z.2) KL.sq)
 |_=>~absurd h (by simp[Aw])
D! gM(T:String)(g:D->R!)(o:Ev->R D)(a:Ev->R (List D)):Ev->R D:=λρ=>(o ρ).bind λx=>if Aw T x=true then(a ρ).bind λxs=>g x xs else .bad
section
variable{X:Cx}{E:XK}{o e:Expr}{es:List Expr}{fo:Ev->R D}{fs:Ev->R (List D)}{name:Str}{apos cpos:Pos}{T id:String}{g:D->R!}
T! pG(pa:PlainAttrs T)(slot:Slot T name id)(hty:typeOf (.builtin id)=pure (.type "method_descriptor"))(hm:Dp X E T id g)(ho:DE X E o fo)(ha:DA X E (e::es) fs)
    (hbase:attributeBase o name X.env (eval o X.env)=eval o X.env:=by rfl)
    (hfew:((backTo cpos (starEach (e::es) X.env)).all (λx=>!x.1)&&(backToKw cpos (keywordEach [] X.env)).all (λx=>x.1.isSome)
      &&decide ((e::es).length+([]:List Keyword).length+(if([]:List Keyword).isEmpty then 0 else 1)<30))=true:=by rfl)
    (hline:(apos.endLine==cpos.line)=true:=by rfl)(hs:W!:=by rfl)(hplain:(backTo cpos (starEach es X.env)).any (·.1)=false:=by rfl):
    DE X E (.Call (.Attribute o name apos) (e::es) [] cpos) (gM T g fo fs):=by
 o!⟨r,rm,rr⟩:=hm;o!⟨to,po,ro⟩:=ho;o!⟨ta,qa,ra,_⟩:=ha;r!\(_,ac6 pa slot hty rm po qa hbase hfew hline hs hplain,λP H0 al H σ ρ Q s h=>ro _ _ _ _ _ _ _ s (Aft.mono (Aft.split h) λx H1 s1 h1 v rv=>?_));by_cases z:Aw T x=true
 ·rw[if_pos z]at h1
  ~\(ajG rv z,ra _ _ _ _ _ _ _ (s.grow s1) (Aft.mono (Aft.split h1) λxs H2 s2 h2 vs Hv=>rr _ _ _ _ _ _ _ ((s.grow s1).grow s2).fresh (rv.up s2) Hv h2))
 ·rw[if_neg z]at h1
  ~h1.elim
D! DO(X:Cx)(E:XK)(e:Option Expr)(f:Ev->R (Option Int)):Prop:=∃t:TO,PO X e t/\
 ∀P H0 al H σ ρ (Q:Option Int->Hp->Prop),RS X.K P H0 al H σ ρ->Aft X.K al E H (f ρ) Q->t σ H Q
D! Pk(X:Cx)(E:XK)(g:D->Option Int->Option Int->R D):Prop:=∃r,tU X r/\
 ∀al H x dx lo hi (Q:VK),(∀a,H a=none->al a)->Rep X.K al H x dx->Aft X.K al E H (g dx lo hi) (λd H'=>∀v,Rep X.K al H' v d->Q v H')->r x lo hi H Q
D! pI(d:D):R (Option Int):=match d with
 |.int i=>.ok (some i)
 |_=>.bad
T! JP:DO X E none (λ_=>.ok none):=\(_,aoj,λ_ _ _ H _ _ _ _ h=>h H (.refl H))
T! vV(h:DE X E e fo):DO X E (some e) (λρ=>(fo ρ).bind pI):=by
 o!⟨t,p,r⟩:=h;r!\(_,aok p,λP H0 al H σ ρ Q s h=>r _ _ _ _ _ _ _ s (Aft.mono (Aft.split h) λx H1 s1 h1 v rv=>?_));cases rv with
 |int i=>~\(i,rfl,h1 H1 (.refl H1))
 |_=>~(h1:False).elim
D! iG(g:D->Option Int->Option Int->R D)(a:Ev->R D)(l u:Ev->R (Option Int)):Ev->R D:=λρ=>(a ρ).bind λx=>(l ρ).bind λi=>(u ρ).bind λj=>g x i j
T! zW{g:D->Option Int->Option Int->R D}{lo hi:Option Expr}{fl fu:Ev->R (Option Int)}{pos p2:Pos}(hr:Pk X E g)(he:DE X E e fo)(hl:DO X E lo fl)(hu:DO X E hi fu):DE X E (.Subscript e (.Slice lo hi none p2) pos) (iG g fo fl fu):=by
 o!⟨r,rm,rr⟩:=hr;o!⟨to,po,ro⟩:=he;o!⟨tl,pl,rl⟩:=hl;o!⟨tu,pu,ru⟩:=hu;r!\(_,an5 rm po pl pu,λP H0 al H σ ρ Q s h=>ro _ _ _ _ _ _ _ s (Aft.mono (Aft.split h) λx H1 s1 h1 v rv=>?_));r! rl _ _ _ _ _ _ _ (s.grow s1) (Aft.mono (Aft.split h1) λi H2 s2 h2=>ru _ _ _ _ _ _ _ ((s.grow s1).grow s2) (Aft.mono (Aft.split h2) λj H3 s3 h3=>?_));~rr _ _ _ _ _ _ _ (((s.grow s1).grow s2).grow s3).fresh ((rv.up s2).up s3) h3
end
T! adf{X:Cx}{tg iter:Expr}{w1 w2:TI}(h1:PI X tg iter w1)(h2:PI X tg iter w2):PI X tg iter (λσ H R=>w1 σ H R\/w2 σ H R):=λpins s σ H R I h=>h.elim (h1 pins s σ H R I) (h2 pins s σ H R I)
section
variable{X:Cx}{E:XK}{tg e:Expr}{f:Ev->R D}
T! arT{K:W.Frag}{al:Addr->Prop}{H:Hp}{a:Addr}{ds:List D}(r:Rep K al H (.ref a) (.lst ds)):Wk K al H (O1 K a) ds:=by
 intro aG H' x fr;o!⟨a',vs,e,q,rs⟩:=(r.mv x).yp;c! e;r!\(λi d h=>?_,λi h=>\(vs,q,by rw[rs.length];~h));o!⟨v,e1,e2⟩:=rs.getD h;r!\(\(vs,v,q,e1),λy za z=>\(z.1,?_));h!:=z.2 vs q;rw[e1]at this;c! this;~e2
T! arW{K:W.Frag}{al:Addr->Prop}{H:Hp}{a:Addr}{ds:List D}(r:Rep K al H (.ref a) (.tup ds)):Wk K al H (O2 K a) ds:=by
 intro aG H' x fr;o!⟨a',vs,e,q,rs⟩:=(r.mv x).Cy;c! e;r!\(λi d h=>?_,λi h=>\(vs,q,by rw[rs.length];~h));o!⟨v,e1,e2⟩:=rs.getD h;r!\(\(vs,v,q,e1),λy za z=>\(z.1,?_));h!:=z.2 vs q;rw[e1]at this;c! this;~e2
D! wJ(lo:Int)(n:Nat):List D:=(List.range n).map λ(k:Nat)=>D.int (lo+(k:Int))
T! arU{K:W.Frag}{al:Addr->Prop}{H:Hp}{lo:Int}{n:Nat}:Wk K al H (Jh lo n) (wJ lo n):=by
 intro aG H' x fr;r!\(λi d h=>?_,λi h=>?_)
 ·u! wJ at h
  rw[List.getElem?_map]at h;by_cases hi:i<n
  ·rw[List.getElem?_range hi]at h
   c! h;~\(hi,λy za z=>\(z.1,by rw[z.2];~.int _))
  ·rw[List.getElem?_eq_none (by simpa using hi)]at h;c! h
 ·u! wJ at h
  show n<=i;simpa using h
D! mC(ds:List D):R (List D):=match ds with
 |[.int j]=>if -(2^62)<=j/\j<2^62 then .ok (wJ 0 j.toNat)else .bad
 |_=>.bad
T! QM{a:Expr}{fs:Ev->R (List D)}{p pos:Pos}(hg:Gl X "range")(hm:X.mg "range"=none)(ha:DA X E [a] fs)(hs:starEach [a] X.env=[(false,eval a X.env)]:=by rfl):DI X E tg (.Call (.Name "range" p) [a] [] pos) (λρ=>(fs ρ).bind mC):=by
 o!⟨t,q,r,_⟩:=ha;r!\(_,aoa hg hm q hs,λP H0 al H σ ρ R s h=>r _ _ _ _ _ _ _ s (Aft.mono (Aft.split h) λds H1 s1 h1 vs rv=>?_));u! mC at h1;split at h1
 ·rename_i j
  cases rv with
  |cons r1 r2=>
   c! r2;c! r1;split at h1
   ·rename_i z
    ~\(j,rfl,z.1,z.2,h1 H1 (.refl H1) _ arU)
   ·~h1.elim
 ·~h1.elim
end
section
variable{K:W.Frag}{P al:Addr->Prop}{H0 H:Hp}{σ:St}{ρ:Ev}
D! abj(i:Nat)(ρ:Ev):Ev:=match ρ[i]? with
 |some (.ow ds)=>ρ.set i (.sh (.lst ds))
 |_=>ρ
end
section
variable{X:Cx}{E:XK}{e:Expr}{sts:List Stmt}{st:Stmt}{g:Ev->RT}{f:Ev->R D}{fn:Ev->R (List D)}{pos:Pos}
D! alR{α:Type}(r:R α):R α:=match r with
 |.ok a=>.ok a
 |_=>.bad
D! apw(i:Nat)(f:Ev->R (List D)):Ev->RT:=λρ=>toS (f ρ) λds=>if i<ρ.length then .nx (ρ.set i (.ow ds))else .bad
D! aeW(i:Nat)(f:Ev->R D):Ev->RT:=λρ=>match ρ[i]? with
 |some (.ow ds)=>toS (f ρ) λd=>if ds.length<sizeLine then .nx (ρ.set i (.ow (ds++[d])))else .bad
 |_=>.bad
end
section
variable{P:Program}{w:World}{K:W.Frag}{mg:G!}{base:Heap}{N:List Str}{qual:Str}{scope:Scope}{f:Addr}{cd:Value}{A:Around}{outer:List Env}{s:Shared}{H:Hp}{E:XK}
T! oR{x:Str}{C fI:Addr}{field:Str}{k:Nat}{En:FuncData}{p1 p2:Str}{np cpos pos:Pos}{arg:Expr}{fs:Ev->R (List D)}(c:vI K C fI field)(FI:fM P w K mg base mL k fI En [p1,p2] (o6 C field))(bI:Binds K En [p1,p2] [])
    (hr:dI (k+1) (Y!).A)(hg:Gl Y! x)(hm:mg x=some (.ref C))(ha:DA Y! E [arg] fs)
    (hdb:E!:=by decide)
    (he:starEach [arg] (Y!).env=(false,eval arg (Y!).env)::starEach [] (Y!).env:=by rfl)
    (hpl:(backTo cpos (starEach [] (Y!).env)).any (·.1)=false:=by rfl):
    DS Y! E (.Raise (some (.Call (.Name x np) [arg] [] cpos)) none pos) (λρ=>toS (fs ρ) λds=>.ex C [field] ds):=by
 o!⟨t,p,r,l⟩:=ha;r!\(_,aow c FI bI hr hg hm p hdb he hpl,λP0 H0 al H1 σ ρ D s1 h=>r _ _ _ _ _ _ _ s1 ?_);dsimp only at h;cases q:fs ρ with
 |bad=>rw[q]at h;~h.elim
 |ex c ns ds=>rw[q]at h;~λdx H2 s2 z=>h dx H2 (s1.same.trans s2) (z.mv (.sub s1.sub))
 |ok ds=>
  rw[q]at h;intro H2 s2 vs rv;h! hl:=l ρ ds q;cases rv with
  |nil=>c! hl
  |cons r1 r2=>
   cases r2 with
   |cons _ _=>c! hl
   |nil=>
    r!\(_,rfl,λdx Ry=>h (some dx) _ ((s1.same.trans s2).trans (mD Ry)) \(s1.sub _ ((s1.grow s2).fresh dx Ry),[_],gG,?_));~.cons ((r1.up (mD Ry)).mv (.sub s1.sub)) .nil
T! aiW{x:Str}{C:Addr}{bmB:List Value}{B newId Bb:String}{np cpos pos:Pos}(FB:ExcBaseFacts B newId Bb bmB)(q:W.excIn K C bmB newId=true)
    (hg:Gl Y! x)(hm:mg x=some (.ref C))(hdb:E!:=by decide):
    DS Y! E (.Raise (some (.Call (.Name x np) [] [] cpos)) none pos) (λ_=>.ex C [] []):=
 \(_,aov FB q hg hm hdb,λP0 H0 al H1 σ ρ D s1 h=>h none H1 s1.same \(rfl,rfl))
end
section
variable{X:Cx}{E:XK}
D! DX(X:Cx)(e:Expr)(f:Ev->R D):Prop:=∃t:TX,EX X e t/\
 ∀P H0 al H σ ρ (Q:VK) (R:XK),RS X.K P H0 al H σ ρ->Aft X.K al R H (f ρ) (λd H'=>∀v,Rep X.K al H' v d->Q v H')->t σ H Q R
D! JL(F:R!)(fs:Ev->R (List D)):Ev->R D:=λρ=>match fs ρ with
 |.ok ds=>F ds
 |_=>.bad
T! ai3{k n:Nat}{x:Str}{ps:List Str}{F:R!}{e:Expr}{es:List Expr}{fs:Ev->R (List D)}{p pos:Pos}(G:jG X.prog X.w X.K X.mg X.base (eE X.prog X.w) k x ps (bu n X.K F))(hr:dI k X.A)(hg:Gl X x)(hn:(e::es).length=n)(ha:DA X.sO (λ_ _ _=>False) (e::es) fs)
    (hex:X.ex=[]:=by rfl)(hdb:E!:=by decide)
    (he:W!:=by rfl)(hpl:Q!:=by rfl):DX X (.Call (.Name x p) (e::es) [] pos) (JL F fs):=by
 o!⟨ta,pa,ra,lb⟩:=ha;r!\(_,ajc G hr hg pa hex hdb he hpl,λP H0 al H σ ρ Q R s h=>ra P H0 al H σ ρ _ s ?_);u! JL at h;cases q:fs ρ with
 |ok ds=>
  rw[q]at h;intro H1 s1 vs rv;rw[List.append_nil];~\(by rw[rv.length,lb ρ ds q];~hn,(s.grow s1).tt,al,ds,(s.grow s1).fresh,rv,Aft.up h s1)
 |ex c ns ds=>rw[q]at h;~h.elim
 |bad=>rw[q]at h;~h.elim
D! DB(X:Cx)(body:List Stmt)(f:Ev->R Ev):Prop:=∃t:TB,BX X body t/\
 ∀P H0 al H σ ρ (D:Ends) (R:St->XK),RS X.K P H0 al H σ ρ->Aft X.K al (R σ) H (f ρ) (λcP H'=>∀σ',RS X.K P H0 al H' σ' cP->D.nx σ' H')->t D R σ H
T! aiJ(i:Nat){y:Str}{e:Expr}{f:Ev->R D}{pos pos':Pos}(hN:X.N.Nodup)(hi:X.N[i]?=some y)(hy:Loc X.env.scope y)(he:DX X e f)(hs:swapsWith e (some (.Name y pos')) pos.line X.env=pure false:=by rfl)
    (hf:X.fn y=true\/X.env.scope.names.lookup y=some .local:=by O!):DB X [.Assign [.Name y pos'] e pos] (λρ=>(f ρ).bind λd=>if i<ρ.length then .ok (ρ.set i (.sh d))else .bad):=by
 o!⟨t,p,r⟩:=he;r!\(_,ah4 hN hi hy p hs hf,λP H0 al H σ ρ D R s h=>r _ _ _ _ _ _ _ _ s (Aft.mono (Aft.split h) λd H1 s1 h1 v rv=>?_));by_cases z:i<ρ.length
 ·S![z,if_true]at h1
  ~h1 H1 (.refl H1) _ ((s.grow s1).set z rv)
 ·S![z,if_false]at h1
  ~h1.elim
end
end P2
namespace L2
open PySem PySem.Spec PyProof.Rows
section
variable{prog:Program}{w:World}{A:Around}{R:Result->Shared->Prop}{s:Shared}
T! aiw{elt target iter:Expr}{ifs:List Expr}{scope:Scope}{pos:Pos}{it acc:Value}{env:Env}(I:Nat->Shared->Prop)
    (turn:∀n s,I n s->wpAny N! A (pyNext it) (λr s₁=>match r with
      |none=>R (.ok .next) s₁
      |some v=>wpAny N! A (letOwnedTupleGo target it v) (λ_ s₀=>wpAny N! A (assign target env v) (λ_ s₂=>
        wpAny N! A (forIn ifs true λc r=>if r=true then do let ok<-isTrue c env (eval c env);pure (ForInStep.yield ok)else pure (ForInStep.yield r)) (λok wM=>
         if ok=true then wpAny N! A (eval elt env) (λx Nz=>
          wpAny N! A (call (.builtin "list.append") [acc,x]) (λ_ afz=>∃m,m<n/\I m afz) (notedBy N! A env λe s'=>R (.error e) s') Nz) (notedBy N! A env λe s'=>R (.error e) s') wM
         else∃m,m<n/\I m wM) (notedBy N! A env λe s'=>R (.error e) s') s₂) (notedBy N! A env λe s'=>R (.error e) s') s₀) (notedBy N! A env λe s'=>R (.error e) s') s₁) (notedBy N! A env λe s'=>R (.error e) s') s)
    (n:Nat)(h:I n s):codeAny N! A (.compLoop (.ListComp elt [\(target,iter,ifs,0)] scope pos) 0 it acc env) R s:=by
 r! codeAny_loop rfl I (λn s hI=>?_) n h;show wpAny _ A ((compTurn (.ListComp elt [\(target,iter,ifs,0)] scope pos) 0 it acc env).onRaise (λx=>do noteFrame x env;theTreesLotGoes x)) _ _ s;r! wpAny_noted ?_;rw[compTurn_list];r! wpAny_bind (wpAny_standAt (wpAny_bind (wpAny_mono (turn n s hI) (λr s₁ wg=>?_) λ_ _ h'=>h')));cases r with
 |none=>~wpAny_pure wg
 |some v=>
  r! wpAny_bind (wpAny_mono wg (λ_ s₀ h₀=>?_) λ_ _ h'=>h');r! wpAny_bind (wpAny_mono h₀ (λ_ s₂ Gr=>wpAny_bind (wpAny_mono Gr (λok wM Lj=>?_) λ_ _ h'=>h')) λ_ _ h'=>h');cases ok with
  |false=>~wpAny_pure \(rfl,Lj)
  |true=>
   ~wpAny_bind (wpAny_bind (wpAny_mono Lj (λx Nz aka=>wpAny_bind (wpAny_mono aka (λ_ afz akb=>wpAny_pure (wpAny_pure \(rfl,akb))) λ_ _ h'=>h')) λ_ _ h'=>h'))
end
A! Cx.comp(X:Cx)(scope:Scope)(N':List Str)(cl:List (Str×Addr))(fp:List Addr)(s3:Shared)(H3:Hp)(C:Addr):Cx:=
 {X with N:=N',s₀:=s3,H₀:=H3,env:=compEnvC scope cl C X.env,outer:=X.stack,ex:=fp,fn:=λ_=>false,pn:=[],xe:=λ_ _=>False}
inductive qb(X:Cx)(cl:List (Str×Addr)):List Str->List Nat->Prop
 |nil:qb X cl [] []
 |cons {x:Str} {i:Nat} {N:List Str} {ci:List Nat}:X.N[i]?=some x->(X.env.kindOf x=some .cell\/X.env.kindOf x=some .free)->cl.lookup x=X.env.cells.lookup x->qb X cl N ci->qb X cl (x::N) (i::ci)
T! qb.length{X:Cx}{cl:List (Str×Addr)}{N:List Str}{ci:List Nat}(h:qb X cl N ci):N.length=ci.length:=by
 induction h with
 |nil=>rfl
 |cons _ _ _ _ ih=>rw[List.length_cons,List.length_cons,ih]
T! qb.get{X:Cx}{cl:List (Str×Addr)}{N:List Str}{ci:List Nat}(h:qb X cl N ci){k:Nat}{x:Str}(e:N[k]?=some x):∃i,ci[k]?=some i/\X.N[i]?=some x/\(X.env.kindOf x=some .cell\/X.env.kindOf x=some .free)/\cl.lookup x=X.env.cells.lookup x:=by
 induction h generalizing k with
 |nil=>simp at e
 |cons h1 h2 h3 _ ih=>
  cases k with
  |zero=>simp at e;subst e;~\(_,rfl,h1,h2,h3)
  |succ k=>simpa using ih (by simpa using e)
D! nH(tn:Nat)(ci:List Nat)(σ:St):St:=List.replicate tn none++ci.map λi=>(σ[i]?).getD none
T! aaA{tn:Nat}{ci:List Nat}{σ:St}{j:Nat}{v:V}(h:(nH tn ci σ)[j]?=some (some v)):∃k i,j=tn+k/\ci[k]?=some i/\σ[i]?=some (some v):=by
 u! nH at h;by_cases hj:j<tn;·rw[List.getElem?_append_left (by simpa using hj),List.getElem?_replicate,if_pos hj]at h;c! h
 ·rw[List.getElem?_append_right (by simpa using hj),List.length_replicate,List.getElem?_map]at h
  cases q:ci[j - tn]? with
  |none=>rw[q]at h;c! h
  |some i=>
   rw[q]at h;r!\(j - tn,i,o?,q,?_);h! h':(σ[i]?).getD none=some v:=Option.some.inj h;cases z:σ[i]? with
   |none=>rw[z]at h';c! h'
   |some y=>rw[z]at h';~congrArg some h'
T! Qp{tn:Nat}{ci:List Nat}{σ:St}:(nH tn ci σ).length=tn+ci.length:=by u! nH;simp
D! XH(wi:TI)(tn:Nat)(ci:List Nat)(g:TG)(tc:TT)(te:TE):TE:=λσ H Q=>wi σ H λJ H1=>∀l,H1 l=none->∃W:Nat->Nat->Hp->Prop,(∃m,W 0 m (upd H1 l (.lst [])))/\∀i m H2,W i m H2->
 (J.stop i H2/\Q (.ref l) H2)\/(J.go i H2/\∀x H3,J.Oi i H2 x H3->g x (nH tn ci σ) H3 λnj H4=>(nj.length=tn+ci.length/\∀j,tn<=j->nj[j]?=(nH tn ci σ)[j]?)/\tc nj H4 λb H5=>
   if b=true then te nj H5 λv H6=>∃acc,H6 l=some (.lst acc)/\acc.length<sizeLine/\∃m',m'<m/\W (i+1) m' (upd H6 l (.lst (acc++[v])))else∃m',m'<m/\W (i+1) m' H5)
D! PF(X:Cx)(ifs:List Expr)(t:TT):Prop:=
 ∀(pins:L!) (s:Shared) (σ:St) (H:Hp) (Q:Bool->Hp->Prop),I!->t σ H Q->
  wpAny M! X.A (forIn ifs true λc r=>if r=true then do let ok<-isTrue c X.env (eval c X.env);pure (ForInStep.yield ok)else pure (ForInStep.yield r)) (TP X pins σ Q) X.xe s
T! an7{X:Cx}:PF X [] (λ_ H Q=>Q true H):=λ_ _ _ H _ I h=>wpAny_tests_nil \(H,I,h)
T! an8{X:Cx}{c:Expr}{t:TT}(h:PT X c t):PF X [c] t:=λpins s σ H Q I hq=>wpAny_tests_one (h pins s σ H Q I hq)
section
variable{X:Cx}{tg iter elt:Expr}{ifs:List Expr}{scope:Scope}{pos:Pos}{wi:TI}{g:TG}{tc:TT}{te:TE}{cl:List (Str×Addr)}{tn:Nat}{Nt Nc:List Str}{ci:List Nat}
T! aaJ{pins:L!}{s:Shared}{σ:St}{H:Hp}{Q:VK}{RR:Value->Addr->Result->Shared->Prop}(I:I!)(hc:X.calm=true)(hi:PI X tg iter wi)
    (hg:∀fp s3 H3 C,PG (X.comp scope (Nt++Nc) cl fp s3 H3 C) tg g)(hf:∀fp s3 H3 C,PF (X.comp scope (Nt++Nc) cl fp s3 H3 C) ifs tc)(he:∀fp s3 H3 C,PE (X.comp scope (Nt++Nc) cl fp s3 H3 C) elt te)
    (hkind:scope.kind=.function)(hcell:∀y∈scope.names,y.2≠.cell)(uo:qb X cl Nc ci)(lg:Nt.length=tn)
    (hsub:∀x c,cl.lookup x=some c->X.env.cells.lookup x=some c)(hhas:∀x,((relabel scope X.env).names.lookup x=some .cell\/(relabel scope X.env).names.lookup x=some .free)->∃c,cl.lookup x=some c)
    (nU:∀x∈Nc,(relabel scope X.env).names.lookup x=some .cell\/(relabel scope X.env).names.lookup x=some .free)
    (h:XH wi tn ci g tc te σ H Q)
    (fin:∀l C H' s' m,s'.heap.Ns C m->Inv X pins σ H' s'->H' C=none->C≠X.env.locals->X.s₀.heap.objs.size<=C->(∀x c,X.env.cells.lookup x=some c->c≠C)->(∀p∈X.pn++pins,p.1≠C)->Q (.ref l) H'->RR (.ref l) C (.ok .next) s'):
    wpAny M! X.A (eval iter X.env) (λx s₁=>wpAny M! X.A (pyIter x) (λit s₂=>wpAny M! X.A (newList []) (λacc wM=>
     wpAny M! X.A (newFunctionEnv scope X.env.globals cl [] X.env.qual none .none (some X.env)) (λaaF Nz=>
      codeAny M! X.A (.compStart (.ListComp elt [\(tg,iter,ifs,0)] scope pos) 0 it acc {aaF with scope:=relabel scope X.env}) (RR acc aaF.locals) Nz) X.xe wM) X.xe s₂) X.xe s₁) X.xe s:=by
 r! bM (hi pins s σ H _ I h) λv s1 h1=>bM h1 λitv s2 h2=>?_;o!⟨it,fp,tk,J,H2,rfl,I2,T,st2,f2,hW⟩:=h2;r! wpAny_newObj_type (wpAny_newFunctionEnv hcell (by intro y hy;simp at hy) (λwg RL hsb₁=>?_) hkind);dsimp only at RL hsb₁⊢;generalize hG:s2.heap.push {cls:=.type "list",dict:=none,data:=.seq ([]:List Value).toArray}=G at RL hsb₁⊢;h! hGs:G.objs.size=s2.heap.objs.size+1:=by rw[<-hG,Heap.size_push]
 h! hl:H2 s2.heap.objs.size=none:=I2.hok.fresh n!;o!⟨W,⟨m0,w0⟩,turn⟩:=hW _ hl;h! I3:Inv X pins σ (upd H2 s2.heap.objs.size (.lst [])) {s2 with heap:=G}:=by
  rw[<-hG];~I2.laid (t':=s2.toks) (λb u e=>Heap.get?_push_of_some _ e) n! \(Nat.zero_le _,[],0,.nil,Heap.get?_push_size _ rfl)
 generalize hH3:upd H2 s2.heap.objs.size (.lst [])=H3 at w0 I3;h! keep:∀b o,G.get? b=some o->wg.get? b=some o:=λb o e=>hsb₁.extBut b o (Nat.ne_of_lt (Heap.lt_size e)) (Heap.get?_push_of_some _ e);h! lt2:∀b∈fp,b<s2.heap.objs.size:=λb hb=>by
  o!⟨o,e,_⟩:=T.obj 0 _ st2 b hb;~Heap.lt_size e
 h! fpC:∀b∈fp,b≠G.objs.size:=λb hb=>Nat.ne_of_lt (Nat.lt_of_lt_of_le (lt2 b hb) (by rw[hGs];~Nat.le_succ _));h! fpH:∀b∈fp,H3 b=none:=λb hb=>by
  rw[<-hH3,cD (Nat.ne_of_lt (lt2 b hb))];~(f2 b hb).1
 let X':=X.comp scope (Nt++Nc) cl fp {s2 with heap:=G} H3 G.objs.size
 h! ok':X'.Ok:=by
  r!\(I3.ok.mod,(by show(relabel scope X.env).kind=_;~hkind),I3.ok.glob,I3.ok.blt,Nat.le_refl _,λx y c e1 e2=>I3.ok.inj x y c (hsub x c e1) (hsub y c e2),λx hx=>hhas x hx,(λx c z=>nomatch z),I3.ok.hd,I3.ok.frames,.inl rfl,λb hb=>\(fpC b hb,λx c e=>(f2 b hb).2.2.2.2.1 x c (hsub x c e)),λb o e=>I3.bs b o e,Nat.le_trans I3.ok.uc I3.sz,λb o e hb=>?_,λb hb z=>?_,I3.stack,I3.Xz)
  ·rcases(f2 b hb).2.2.2.1 with z|z
   ·~I3.ok.GQ b o e z
   ·~absurd (Nat.lt_of_lt_of_le (Heap.lt_size e) (Nat.le_trans I3.ok.uc z)) (Nat.lt_irrefl _)
  ·rcases List.mem_cons.mp (I3.Ny b z)with e|e
   ·~(f2 b hb).2.1 e
   ·~(f2 b hb).2.2.1 e
 h! J0:Inv X' [] (nH tn ci σ) H3 {s2 with heap:=wg,toks:=s2.toks+0}:=by
  r!\(ok',rfl,I3.bare,Un.kept keep,\(_,RL,λi x v e1 e2 e3=>?_),λx c e=>?_,I3.hok.fresh n!,λx c e=>I3.pJ x c (hsub x c e),λp hp=>absurd (show p∈([]:L!)from hp) (by simp),I3.hok.kept keep,?_)
  ·o!⟨k,j,rfl,q1,q2⟩:=aaA e2
   h! e1':Nc[k]?=some x:=by
    rw[List.getElem?_append_right o?]at e1;rw[show tn+k - Nt.length=k by om]at e1;~e1
   o!⟨j',z1,z2,z3,z4⟩:=uo.get e1';rw[q1]at z1;c! z1;o!⟨m,hn,hlk⟩:=I3.loc;o!⟨u,r,lk⟩:=hlk j x v z2 q2 (z3.elim (λz=>.inr (.inl z)) λz=>.inr (.inr z));r!\(u,r,.inr \(nU x (List.mem_of_getElem? e1'),?_));rcases lk with⟨k1,_⟩|⟨_,c,k2,k3⟩;·rcases z3 with z|z<;>(rw[k1]at z;c! z)
   ·r!\(c,z4.trans k2,?_)
    o!⟨o,ho,hd⟩:=k3;~\(o,keep _ _ ho,hd)
  ·o!⟨v,o,ho,hd⟩:=I3.cell x c (hsub x c e)
   ~\(v,o,keep _ _ ho,hd)
  ·rw[Qp]
   show _=(Nt++Nc).length;rw[List.length_append,uo.length,lg]
 h! stat:∀{Bw:L!} {H':Hp},(∀p∈Bw,p.1∉fp)->(∀b∈fp,H' b=none)->∀b∈fp,tQ X' Bw H' b:=λ{Bw H'} hp hn b hb=>
  \(hn b hb,fpC b hb,λz=>ok'.Em b hb z,.inl hb,λx c e=>(ok'.Q6 b hb).2 x c e,λp hpm z=>hp p ((List.mem_append.mp hpm).elim (λw=>absurd (show p∈([]:L!)from w) (by simp)) λw=>w) (by rw[z];~hb))
 h! mk:∀(s5:Shared),(∀i H5,Inv X' [] (nH tn ci σ) H5 s5->tk i s5.heap->(∀b∈fp,H5 b=none)->∀n,W i n H5->
     codeAny M! X.A (.compLoop (.ListComp elt [\(tg,iter,ifs,0)] scope pos) 0 (.ref it) (.ref s2.heap.objs.size) (compEnvC scope cl G.objs.size X.env)) (RR (.ref s2.heap.objs.size) G.objs.size) s5):=by
  intro s5 i5 H5 J5 HJ Ra n5 w5;r! aiw (λn s'=>∃i H',Inv X' [] (nH tn ci σ) H' s'/\tk i s'.heap/\(∀b∈fp,H' b=none)/\W i n H') ?_ n5 \(i5,H5,J5,HJ,Ra,w5)
  rintro n s6 ⟨i,H6,J6,st6,fr6,w6⟩
  rcases turn i n H6 w6 with⟨stop,q⟩|⟨go,step⟩
  ·r! wpAny_mono (T.done X' rfl rfl rfl hc i [] s6 _ H6 (λ_ _=>False) J6 (stat (by simp) fr6) st6 stop) (λr s7 \(hr,J7)=>?_) λ_ _ z=>z.elim
   subst hr;o!⟨m,hn,_⟩:=J7.loc;h! IX:Inv X pins σ H6 s7:=I3.aaw (ch:=fp) J7.os J7.base J7.hok J7.bare λb hb=>\((f2 b hb).2.2.2.1,(f2 b hb).2.1,(f2 b hb).2.2.2.2.1,(f2 b hb).2.2.2.2.2);r! fin _ _ H6 s7 m hn IX J7.free (Nat.ne_of_gt I3.lt) (Nat.le_trans I3.sz n!) (λx c e z=>?_) (λp hp z=>?_) q
   ·o!⟨v,o,ho,_⟩:=I3.cell x c e
    ~absurd (Heap.lt_size ho) (by rw[z];~Nat.lt_irrefl _)
   ·~absurd (Heap.lt_size (I3.pin p hp).1) (by rw[z];~Nat.lt_irrefl _)
  ·r! wpAny_mono (T.item X' rfl rfl rfl hc i [] s6 _ H6 (λ_ _=>False) J6 (stat (by simp) fr6) st6 go) (λr s7 \(u,hr,h7)=>?_) λ_ _ z=>z.elim
   subst hr;r! wpAny_mono h7 (λ_ s8 \(x,H8,J8,r8,y8,Xp,fr8)=>?_) λ_ _ z=>z.elim;h! J8':=J8.pinned (stat (by simp) fr8) (T.obj _ _ Xp)
   h! back:∀{σ9:St} {H9:Hp} {s9:Shared},Inv X' ([]++G9 fp s8.heap) σ9 H9 s9->σ9.length=tn+ci.length->(∀j,tn<=j->σ9[j]?=(nH tn ci σ)[j]?)->∀m',m'<n->W (i+1) m' H9->
       ∃m,m<n/\∃i H',Inv X' [] (nH tn ci σ) H' s9/\tk i s9.heap/\(∀b∈fp,H' b=none)/\W i m H':=λ{σ9 H9 s9} J9 hl9 hk9 m' hm w9=>by
    r!\(m',hm,i+1,H9,J9.Od.weak (by rw[Qp,hl9]) λj v e=>?_,T.keep _ _ _ Xp λb hb o e=>(J9.pin (b,o) (List.mem_append_right _ (List.mem_append_right _ (LR hb e)))).1,λb hb=>?_,w9)
    ·o!⟨k,_,rfl,_⟩:=aaA e
     rw[hk9 _ o?];~e
    ·o!⟨o,e,d⟩:=T.obj _ _ Xp b hb
     ~(J9.pin (b,o) (List.mem_append_right _ (List.mem_append_right _ (LR hb e)))).2.1
   r! wpAny_mono (hg fp _ _ _ _ s8 _ H8 x u _ J8' r8 (step x H8 y8)) (λ_ s9 \(σ9,H9,J9,\(l9,k9),q9)=>?_) λ_ _ z=>z.elim;r! wpAny_mono (hf fp _ _ _ _ s9 σ9 H9 _ J9 q9) (λb yH \(OD,Zk,MK)=>?_) λ_ _ z=>z.elim;cases b with
   |false=>
    rw[if_neg Bool.false_ne_true]at MK⊢;o!⟨m',hm,w10⟩:=MK;~back Zk l9 k9 m' hm w10
   |true=>
    rw[if_pos rfl]at MK⊢;r! wpAny_mono (he fp _ _ _ _ yH σ9 OD _ Zk MK) (λy Hx \(v,Jc,J11,r11,acc,e11,z11,m',hm,w11)=>?_) λ_ _ z=>z.elim;r! wpAny_mono (acF (X:=X') _ Hx σ9 Jc (.ref _) [v] (.ref _) [y] (λ_ Jd=>W (i+1) m' Jd) J11 rfl (.cons r11 .nil) \(_,acc,v,rfl,rfl,e11,z11,w11)) (λ_ s12 \(_,Jd,J12,_,w12)=>?_) λ_ _ z=>z.elim;~back J12 l9 k9 m' hm w12
 h! Xo:tk 0 wg:=T.keep _ _ _ st2 λb _ o e=>keep b o (by rw[<-hG];~Heap.get?_push_of_some _ e);~codeAny_compStart_list (mk _ 0 H3 J0 Xo fpH m0 w0) (T.self _ 0 _ _ _ Xo (mk _ 0 H3 J0 Xo fpH m0 w0))
T! anP(hc:X.calm=true)(hi:PI X tg iter wi)(hg:∀fp s3 H3 C,PG (X.comp scope (Nt++Nc) cl fp s3 H3 C) tg g)(hf:∀fp s3 H3 C,PF (X.comp scope (Nt++Nc) cl fp s3 H3 C) ifs tc)(he:∀fp s3 H3 C,PE (X.comp scope (Nt++Nc) cl fp s3 H3 C) elt te)
    (hclos:closureFor scope X.env=pure cl)(hkind:scope.kind=.function)(hcell:∀y∈scope.names,y.2≠.cell)(hnames:∀x∈scope.names,x.2=.local->scope.names.lookup x.1=some .local)(uo:qb X cl Nc ci)(lg:Nt.length=tn)
    (hsub:∀x c,cl.lookup x=some c->X.env.cells.lookup x=some c)(hhas:∀x,((relabel scope X.env).names.lookup x=some .cell\/(relabel scope X.env).names.lookup x=some .free)->∃c,cl.lookup x=some c)
    (nU:∀x∈Nc,(relabel scope X.env).names.lookup x=some .cell\/(relabel scope X.env).names.lookup x=some .free)
    (hs:i!:=by intro _;rfl):PE X (.ListComp elt [\(tg,iter,ifs,0)] scope pos) (XH wi tn ci g tc te):=by
 intro pins s σ H Q I h;rw[eval_ListComp];r! wpAny_comprehension_free (use:=none) rfl hs hclos hkind hnames (aaJ (Nt:=Nt) (Nc:=Nc) I hc hi hg hf he hkind hcell uo lg hsub hhas nU h ?_);intro l C H' s' m hn I' h1 h2 h3 h4 h5 q;~\(m,hn,λh'' hs''=>\(.ref l,H',I'.turned (t':=s'.toks) (λb o hb e=>hs''.extBut b o hb e) h1 h2 (.inr h3) h4 h5,rfl,q))
D! Pg(X:Cx)(e:Expr)(t:TE):Prop:=
 ∀(i:Nat) (x:Str) (pos':Pos) (_:X.N.Nodup) (_:X.N[i]?=some x) (_:Loc X.env.scope x) (_:V!) (pins:L!) (s:Shared) (σ:St) (H:Hp) (Q:VK),I!->t σ H Q->
  wpAny M! X.A (evalThenUse e X.env (assign (.Name x pos') X.env)) (λ_ s'=>∃v H',Inv X pins (σ.set i (some v)) H' s'/\Q v H') X.xe s
T! aoC(hc:X.calm=true)(hi:PI X tg iter wi)(hg:∀fp s3 H3 C,PG (X.comp scope (Nt++Nc) cl fp s3 H3 C) tg g)(hf:∀fp s3 H3 C,PF (X.comp scope (Nt++Nc) cl fp s3 H3 C) ifs tc)(he:∀fp s3 H3 C,PE (X.comp scope (Nt++Nc) cl fp s3 H3 C) elt te)
    (hclos:closureFor scope X.env=pure cl)(hkind:scope.kind=.function)(hcell:∀y∈scope.names,y.2≠.cell)(hnames:∀x∈scope.names,x.2=.local->scope.names.lookup x.1=some .local)(uo:qb X cl Nc ci)(lg:Nt.length=tn)
    (hsub:∀x c,cl.lookup x=some c->X.env.cells.lookup x=some c)(hhas:∀x,((relabel scope X.env).names.lookup x=some .cell\/(relabel scope X.env).names.lookup x=some .free)->∃c,cl.lookup x=some c)
    (nU:∀x∈Nc,(relabel scope X.env).names.lookup x=some .cell\/(relabel scope X.env).names.lookup x=some .free)
    (hs:i!:=by intro _;rfl):Pg X (.ListComp elt [\(tg,iter,ifs,0)] scope pos) (XH wi tn ci g tc te):=by
 intro i x pos' hN hxi hx Gi pins s σ H Q I h;u! evalThenUse;r! wpAny_bind (wpAny_comprehension_free (use:=some (assign (.Name x pos') X.env)) rfl hs hclos hkind hnames (aaJ (Nt:=Nt) (Nc:=Nc) I hc hi hg hf he hkind hcell uo lg hsub hhas nU h ?_));intro l C H' s' m hn I' h1 h2 h3 h4 h5 q;show wpAny _ _ (assign (.Name x pos') X.env (.ref l)) _ _ _;r! wpAny_bind (wpAny_standAt (wpAny_bindName (afu I' hN hxi hx (v:=.ref l) rfl (λs2 I2 ha=>?_) Gi)));o!⟨a,sb,ha⟩:=ha;h! ne:C≠a:=by
  rcases ha with rfl|ha;·~h2
  ·~λz=>h4 _ _ ha z.symm
 o!⟨o,es,ep,e,r⟩:=hn;r!\(m,\(o,es,ep,(sb.2 C ne).trans e,r),λh'' hs''=>wpAny_pure \(.ref l,H',I2.turned (t':=s2.toks) (λb o hb e=>hs''.extBut b o hb e) h1 h2 (.inr h3) h4 h5,q))
T! aoy{i:Nat}{x:Str}{e:Expr}{te:TE}{pos' afr:Pos}(hN:X.N.Nodup)(hi:X.N[i]?=some x)(hx:Loc X.env.scope x)(he:Pg X e te)(hs:swapsWith e (some (.Name x pos')) afr.line X.env=pure true:=by rfl)(hf:V!:=by O!):
    PS X (.Assign [.Name x pos'] e afr) (afA te (Rg i)):=by
 intro pins s σ H D I h;rw[exec_Assign_Name_used _ _ _ _ hs];r! wpAny_bind (wpAny_standAt (wpAny_bind (bM (he i x pos' hN hi hx hf pins s σ H _ I h) λ_ s' \(v,H',I',q)=>wpAny_pure \(_,H',I',q))))
end
end L2
namespace P2
open PySem L2 PyProof.Rows
A! bits(x:Int):Nat:=Builtin.Int.intBits x
T! Mu{X:Cx}{f:Value->Value->Sem Value}{r r':R2}(h:gA X f r)(h':gA X f r'):gA X f (λx y H Q=>r x y H Q\/r' x y H Q):=
 λpins s σ H x y v u Q I rx ry q=>q.elim (h pins s σ H x y v u Q I rx ry) (h' pins s σ H x y v u Q I rx ry)
D! iB(C:Int->Int->Bool)(g:Int->Int->D)(x y:D):R D:=match x,y with
 |.int i,.int j=>if C i j=true then .ok (g i j)else .bad
 |_,_=>.bad
section
variable{X:Cx}{E:XK}
T! Tp{op:Value->Value->Sem Value}{C:Int->Int->Prop}{Cb:Int->Int->Bool}{g:Int->Int->V}{gd:Int->Int->D}(ho:gA X op (rI C g))(hC:∀i j,Cb i j=true->C i j)(hg:∀i j K al H,Rep K al H (g i j) (gd i j)):je X E op (iB Cb gd):=by
 r!\(_,ho,λal H x y dx dy Q fr rx ry h=>?_);u! iB at h;split at h
 ·rename_i i j
  c! rx;c! ry;split at h
  ·rename_i z
   ~\(i,j,rfl,rfl,hC i j z,h H (.refl H) _ (hg i j _ _ _))
  ·~h.elim
 ·~h.elim
T! Mt{op:Value->Value->Sem Value}{g:Int->Int->V}{gd:Int->Int->D}(ho:gA X op (wI g))(hg:∀i j K al H,Rep K al H (g i j) (gd i j)):je X E op (iB (λ_ _=>true) gd):=by
 r!\(_,ho,λal H x y dx dy Q fr rx ry h=>?_);u! iB at h;split at h
 ·rename_i i j
  c! rx;c! ry;~\(i,j,rfl,rfl,h H (.refl H) _ (hg i j _ _ _))
 ·~h.elim
D! mG:D->D->R D:=iB (λ_ _=>true) λi j=>.int (i - j)
T! wC:je X E (binaryOp .Sub) mG:=Mt anA λ_ _ _ _ _=>.int _
D! acQ(i j:Int):Bool:=decide (bits i<=1048576)&&decide (bits j<=1048576)
D! G3(_ j:Int):Bool:=decide (j≠0)&&decide (bits j<=9000)
D! acS(i j:Int):Bool:=decide (0<=j)&&decide (j<=1000000)&&decide (i.natAbs<2^64)
D! fW:D->D->R D:=iB G3 λi j=>.int (i.fdiv j)
T! jU:je X E (binaryOp .FloorDiv) fW:=Tp anl (λi j h=>by u! G3 at h;simpa [Y4]using h) λ_ _ _ _ _=>.int _
D! eZ:D->D->R D:=iB (λ_ j=>decide (j≠0)) λi j=>.int (i.fmod j)
T! iz:je X E (binaryOp .Mod) eZ:=Tp anr (λi j h=>by simpa using h) λ_ _ _ _ _=>.int _
D! U5:D->D->R D:=iB acS λi j=>.int (i^j.toNat)
T! anz:je X E (binaryOp .Pow) U5:=Tp anx (λi j h=>by u! acS at h;S![Bool.and_eq_true,decide_eq_true_eq]at h;~\(h.1.1,h.1.2,h.2)) λ_ _ _ _ _=>.int _
D! nZ:D->D->R D:=iB (λ_ _=>true) λi j=>.bl (decide (i<j))
D! leD:D->D->R D:=iB (λ_ _=>true) λi j=>.bl (decide (i<=j))
D! eG:D->D->R D:=iB (λ_ _=>true) λi j=>.bl (decide (j<i))
D! Kg:D->D->R D:=iB (λ_ _=>true) λi j=>.bl (decide (j<=i))
T! wB:je X E (compareOp .Lt) nZ:=Mt anq λ_ _ _ _ _=>.bl _
T! mz:je X E (compareOp .Gt) eG:=Mt ano λ_ _ _ _ _=>.bl _
T! acV:je X E (compareOp .GtE) Kg:=Mt anm λ_ _ _ _ _=>.bl _
D! Bo:D->R D
 |.int i=>.ok (.int (-i))
 |_=>.bad
T! af9:ZX X E (unaryOp .USub) Bo:=by
 r!\(_,arK,λal H x dx Q fr rx h=>?_);u! Bo at h;split at h;·c! rx;~\(_,rfl,h H (.refl H) _ (.int _))
 ·~h.elim
D! Jj(K:W.Frag)(H:Hp)(a:Addr)(xs:List V):Prop:=Rd H a (.lst xs)\/KL K a xs
T! Jj.is{X:Cx}{pins:L!}{s:Shared}{σ:L2.St}{H:Hp}{a:Addr}{xs:List V}(I:I!)(h:Jj X.K H a xs):∃its n,Vals xs its/\s.heap.get? a=some {cls:=.type "list",data:=.seq its.toArray n}:=by
 rcases h with h|⟨its,n,h1,h2,h3⟩
 ·o!⟨z,its,n,r,e⟩:=h.ok I.hok
  ~\(its,n,r,e)
 ·~\(its,n,h3,I.eY a _ h1)
D! ao2(K:W.Frag):R2:=λx y H Q=>∃l b xs zs,x=.ref l/\y=.ref b/\Jj K H l xs/\Jj K H b zs/\xs.length+zs.length<=sizeLine/\∀p,H p=none->Q (.ref p) (upd H p (.lst (xs++zs)))
T! ani:gA X (binaryOp .Add) (ao2 X.K):=by
 intro pins s σ H x y v u Q I rx ry h;o!⟨l,b,xs,zs,rfl,rfl,hH,hB,hz,q⟩:=h;c! rx;c! ry;o!⟨its,n,r,e⟩:=hH.is I;o!⟨abV,n2,r2,e2⟩:=hB.is I;h! hl:=r.length;h! hl2:=r2.length;r! PySem.P.add_list e e2 ?_ (by rw[List.size_toArray,List.size_toArray];om);h! ea:its.toArray++abV.toArray=(its++abV).toArray:=by simp
 rw[ea];~\(.ref _,_,I.aci (t':=s.toks) (r.append r2) (by rw[List.length_append];om),rfl,q _ I.fresh)
D! aP:D->D->R D
 |.int i,.int j=>.ok (.int (i+j))
 |.str i,.str j=>if i.length+j.length<=sizeLine then .ok (.str (i++j))else .bad
 |.lst xs,.lst ys=>if xs.length+ys.length<=sizeLine then .ok (.lst (xs++ys))else .bad
 |_,_=>.bad
T! cu:je X E (binaryOp .Add) aP:=by
 r!\(_,Mu ang (Mu anh ani),λal H x y dx dy Q fr rx ry h=>?_);u! aP at h;split at h;·c! rx;c! ry;~.inl \(_,_,rfl,rfl,h H (.refl H) _ (.int _))
 ·c! rx;c! ry
  split at h;·rename_i z;~.inr (.inl \(_,_,rfl,rfl,z,h H (.refl H) _ (.str _)))
  ·~h.elim
 ·split at h
  ·rename_i z
   o!⟨a,vs,rfl,h1,h2⟩:=rx.acs;o!⟨b,ws,rfl,h3,h4⟩:=ry.acs;~.inr (.inr \(a,b,vs,ws,rfl,rfl,h1,h3,by rw[h2.length,h4.length];~z,λp hp=>h _ (mD hp) _ ((h2.append h4).Gy hp (fr p hp))))
  ·~h.elim
 ·~h.elim
D! yw(x:Str)(n:Int):Bool:=!(decide (n< -(2^63:Int))||decide (n≥2^63))&&decide (x.length*n.toNat<=1000000)&&decide (x.length<=1000000)&&decide (n<=1000000)
T! anv:gA X (binaryOp .Mult) (λx y H Q=>∃i n,x=.str i/\y=.int n/\MulOk i n/\Q (.str (Txt.mul i n)) H):=by
 intro pins s σ H x y v u Q I rx ry h;o!⟨i,j,rfl,rfl,hz,q⟩:=h;o!⟨t,rfl⟩:=rx;o!⟨t',rfl⟩:=ry;~SB.mul hz λt'' k=>\(.str _,H,I.tok _,\(_,rfl),q)
T! mulOk_of{x:Str}{n:Int}(h:yw x n=true):MulOk x n:=by
 u! yw at h;S![Bool.and_eq_true,decide_eq_true_eq,Bool.not_eq_true']at h;o!⟨⟨⟨h1,h2⟩,h3⟩,h4⟩:=h;r!\(h1,λh5 _=>?_,λ_ _=>?_)
 ·h! h6:(1:Int)<=n:=by om
  h! h7:(1000000:Int)<=(2^63 - 1)/n:=by
   apply(Int.le_ediv_iff_mul_le o?).mpr;h!:(1000000:Int)*n<=1000000*1000000:=Int.mul_le_mul_of_nonneg_left h4 d?;om
  om
 ·h!:sizeLine=16777216:=sizeLine_eq
  u! Builtin.Str.tooLong;S![decide_eq_false_iff_not];om
D! z8:D->D->Option Bool
 |.non,.non=>some true
 |.int i,.int j=>some (decide (i=j))
 |.str i,.str j=>some (decide (i=j))
 |.bl i,.bl j=>some (decide (i=j))
 |.non,.int _=>some false
 |.int _,.non=>some false
 |.non,.str _=>some false
 |.str _,.non=>some false
 |.non,.bl _=>some false
 |.bl _,.non=>some false
 |.int _,.str _=>some false
 |.str _,.int _=>some false
 |_,_=>none
D! cX(x y:D):R D:=match z8 x y with
 |some b=>.ok (.bl b)
 |none=>.bad
D! fY(x y:D):R D:=match z8 x y with
 |some b=>.ok (.bl (!b))
 |none=>.bad
T! abd{K:W.Frag}{al:Addr->Prop}{H:Hp}{x y:V}{dx dy:D}{b:Bool}(rx:Rep K al H x dx)(ry:Rep K al H y dy)(h:z8 dx dy=some b):Wj x y=true/\decide (x=y)=b:=by
 u! z8 at h;split at h<;>first|(c! h;done)|(c! rx;c! ry;c! h;r!\(rfl,?_);simp)
T! fC:je X E (compareOp .Eq) cX:=by
 r!\(_,anj,λal H x y dx dy Q fr rx ry h=>?_);u! cX at h;cases q:z8 dx dy with
 |none=>rw[q]at h;~h.elim
 |some b=>
  rw[q]at h;o!⟨h1,h2⟩:=abd rx ry q;~\(h1,by rw[h2];~h H (.refl H) _ (.bl b))
T! qM:je X E (compareOp .NotEq) fY:=by
 r!\(_,anw,λal H x y dx dy Q fr rx ry h=>?_);u! fY at h;cases q:z8 dx dy with
 |none=>rw[q]at h;~h.elim
 |some b=>
  rw[q]at h;o!⟨h1,h2⟩:=abd rx ry q;~\(h1,by rw[h2];~h H (.refl H) _ (.bl _))
D! mX:D->D->R D
 |.str i,.str j=>.ok (.bl (Txt.contains j i))
 |_,_=>.bad
T! Ms:je X E (compareOp .In) mX:=by
 r!\(_,anp,λal H x y dx dy Q fr rx ry h=>?_);u! mX at h;split at h;·c! rx;c! ry;~\(_,_,rfl,rfl,h H (.refl H) _ (.bl _))
 ·~h.elim
T! bz.bN{K:W.Frag}{al:Addr->Prop}{H:Hp}{vs:List V}{ds:List D}(r:bz K al H vs ds){i:Int}{d:D}(h:L2.bN ds i=some d):∃v,L2.bN vs i=some v/\Rep K al H v d:=by
 u! L2.bN at h⊢;rw[r.length];cases q:uz ds.length i with
 |none=>rw[q]at h;c! h
 |some j=>
  rw[q]at h;~r.getD h
D! aO:D->D->R D
 |.lst ds,.int i=>match L2.bN ds i with
  |some d=>.ok d
  |none=>.bad
 |.tup ds,.int i=>match L2.bN ds i with
  |some d=>.ok d
  |none=>.bad
 |.str z,.int i=>if z.length<=sizeLine then(match L2.bN z.cps.toList i with
  |some c=>.ok (.str \(#[c]))
  |none=>.bad)else .bad
 |_,_=>.bad
T! bR:O3 X E aO:=by
 r!\(_,aks,λal H x y dx dy Q fr rx ry h=>?_);u! aO at h;split at h
 ·rename_i ds i
  c! ry;cases q:L2.bN ds i with
  |none=>rw[q]at h;~h.elim
  |some d=>
   rw[q]at h;o!⟨a,vs,rfl,h1,h2⟩:=rx.yp;o!⟨v,e1,e2⟩:=bz.bN h2 q;~.inl \(a,vs,i,v,rfl,rfl,h1,e1,h H (.refl H) _ e2)
 ·rename_i ds i
  c! ry;cases q:L2.bN ds i with
  |none=>rw[q]at h;~h.elim
  |some d=>
   rw[q]at h;o!⟨a,vs,rfl,h1,h2⟩:=rx.Cy;o!⟨v,e1,e2⟩:=bz.bN h2 q;~.inr (.inl \(a,vs,i,v,rfl,rfl,h1,e1,h H (.refl H) _ e2))
 ·rename_i z i
  c! rx;c! ry;split at h
  ·rename_i hz
   cases q:L2.bN z.cps.toList i with
   |none=>rw[q]at h;~h.elim
   |some c=>rw[q]at h;~.inr (.inr \(z,i,c,rfl,rfl,hz,q,h H (.refl H) _ (.str _)))
  ·~h.elim
 ·~h.elim
D! ao6:V->Option Int->Option Int->Hp->VK->Prop:=λx lo hi H Q=>∃z,x=.str z/\z.length<=sizeLine/\Q (.str (Txt.slice z lo hi)) H
T! aql:tU X ao6:=by
 intro pins s σ H x v vl vu lo hi sl Q I rx hs pl pu h;o!⟨z,rfl,hz,q⟩:=h;o!⟨t,rfl⟩:=rx;r!\("str",_,PySem.F.slot_str_getitem.lookup,typeIs_str s z t,?_);o!⟨o,h1,h2,h3⟩:=hs;cases pl with
 |none=>
  cases pu with
  |none=>~wpAny_getItem_str_slice (l:=none) (u:=none) (st:=none) \(o,h1,h2,h3) rfl (post_val_or_str \(Nat.le_trans (Txt.slice_le z none none) hz,λt' k=>\(.str _,H,I.tok _,\(_,rfl),q)))
  |int j u=>~wpAny_getItem_str_slice (l:=none) (u:=some (j,u)) (st:=none) \(o,h1,h2,h3) rfl (post_val_or_str \(Nat.le_trans (Txt.slice_le z none (some j)) hz,λt' k=>\(.str _,H,I.tok _,\(_,rfl),q)))
 |int i ui=>
  cases pu with
  |none=>~wpAny_getItem_str_slice (l:=some (i,ui)) (u:=none) (st:=none) \(o,h1,h2,h3) rfl (post_val_or_str \(Nat.le_trans (Txt.slice_le z (some i) none) hz,λt' k=>\(.str _,H,I.tok _,\(_,rfl),q)))
  |int j u=>~wpAny_getItem_str_slice (l:=some (i,ui)) (u:=some (j,u)) (st:=none) \(o,h1,h2,h3) rfl (post_val_or_str \(Nat.le_trans (Txt.slice_le z (some i) (some j)) hz,λt' k=>\(.str _,H,I.tok _,\(_,rfl),q)))
D! cutD(xs:List D)(lo hi:Option Int):List D:=(xs.drop (HT.cM xs.length 0 lo)).take (HT.cM xs.length xs.length hi - HT.cM xs.length 0 lo)
T! bz.cut{K:W.Frag}{al:Addr->Prop}{H:Hp}{vs:List V}{ds:List D}(r:bz K al H vs ds)(lo hi:Option Int):bz K al H (vP vs lo hi) (cutD ds lo hi):=by
 u! vP cutD;rw[r.length];~(r.drop _).take _
D! HH:D->Option Int->Option Int->R D
 |.lst ds,lo,hi=>.ok (.lst (cutD ds lo hi))
 |.str z,lo,hi=>if z.length<=sizeLine then .ok (.str (Txt.slice z lo hi))else .bad
 |_,_,_=>.bad
T! aqj:Pk X E HH:=by
 r!\(_,aqk.or aql,λal H x dx lo hi Q fr rx h=>?_);u! HH at h;split at h
 ·o!⟨a,vs,rfl,h1,h2⟩:=rx.yp
  ~.inl \(a,vs,rfl,h1,λp hp=>h _ (mD hp) _ ((h2.cut lo hi).Gy hp (fr p hp)))
 ·c! rx
  split at h;·rename_i hz;~.inr \(_,rfl,hz,h H (.refl H) _ (.str _))
  ·~h.elim
 ·~h.elim
D! cj:R!
 |[.str z]=>if z.length<=sizeLine then .ok (.int z.length)else .bad
 |[.lst ds]=>.ok (.int ds.length)
 |[.tup ds]=>.ok (.int ds.length)
 |_=>.bad
T! bz.one{K:W.Frag}{al:Addr->Prop}{H:Hp}{vs:List V}{d:D}(r:bz K al H vs [d]):∃v,vs=[v]/\Rep K al H v d:=by
 cases r with
 |cons a b=>c! b;~\(_,rfl,a)
T! bz.two{K:W.Frag}{al:Addr->Prop}{H:Hp}{vs:List V}{d e:D}(r:bz K al H vs [d,e]):∃v u,vs=[v,u]/\Rep K al H v d/\Rep K al H u e:=by
 cases r with
 |cons a b=>o!⟨u,rfl,q⟩:=bz.one b;~\(_,_,rfl,a,q)
T! jl:pC X E (.builtin "len") cj:=by
 r!\(_,aij.or aay,λal H xs ds Q fr r h=>?_);u! cj at h;split at h
 ·o!⟨v,rfl,q⟩:=bz.one r
  c! q;split at h;·rename_i hz;~.inl \(_,rfl,hz,h H (.refl H) _ (.int _))
  ·~h.elim
 ·o!⟨v,rfl,q⟩:=bz.one r
  o!⟨a,vs,rfl,h1,h2⟩:=q.yp;~.inr \(a,vs,rfl,.inl h1,by rw[h2.length];~h H (.refl H) _ (.int _))
 ·o!⟨v,rfl,q⟩:=bz.one r
  o!⟨a,vs,rfl,h1,h2⟩:=q.Cy;~.inr \(a,vs,rfl,.inr h1,by rw[h2.length];~h H (.refl H) _ (.int _))
 ·~h.elim
D! xE:R!
 |[.int i]=>.ok (.int (if i<0 then -i else i))
 |_=>.bad
T! Qn:pC X E (.builtin "abs") xE:=by
 r!\(_,aia,λal H xs ds Q fr r h=>?_);u! xE at h;split at h
 ·o!⟨v,rfl,q⟩:=bz.one r
  c! q;~\(_,rfl,h H (.refl H) _ (.int _))
 ·~h.elim
D! n6:R!
 |[.int i,.int j]=>.ok (.int (if j>i then j else i))
 |_=>.bad
T! Qo(hc:X.calm=true):pC X E (.builtin "max") n6:=by
 r!\(_,aik hc,λal H xs ds Q fr r h=>?_);u! n6 at h;split at h
 ·o!⟨v,u,rfl,q,q2⟩:=bz.two r
  c! q;c! q2;~\(_,_,rfl,h H (.refl H) _ (.int _))
 ·~h.elim
D! qR:R!
 |[.int i]=>if i.natAbs.log2<1920 then .ok (.str (toString i))else .bad
 |_=>.bad
T! Eb:pC X E (.type "str") qR:=by
 r!\(_,ail,λal H xs ds Q fr r h=>?_);u! qR at h;split at h
 ·o!⟨v,rfl,q⟩:=bz.one r
  c! q;split at h;·rename_i hz;~\(_,rfl,hz,h H (.refl H) _ (.str _))
  ·~h.elim
 ·~h.elim
T! aie:jF X (.type "int") (λxs H Q=>∃z n,xs=[.str z]/\PySem.intText? z=some n/\z.length<=640/\Q (.int n) H):=by
 intro pins s σ H xs us Q I r h;o!⟨z,n,rfl,h1,h2,q⟩:=h;o!⟨u,rfl,t,rfl⟩:=vals1 r;~W.KIN.call_text h1 h2 \(.int n,H,I.tok _,\(_,rfl),q)
D! intD:R!
 |[.str z]=>match PySem.intText? z with
  |some n=>if z.length<=640 then .ok (.int n)else .bad
  |none=>.bad
 |_=>.bad
T! Ea:pC X E (.type "int") intD:=by
 r!\(_,aie,λal H xs ds Q fr r h=>?_);u! intD at h;split at h
 ·rename_i z
  o!⟨v,rfl,q⟩:=bz.one r;c! q;cases e:PySem.intText? z with
  |none=>rw[e]at h;~h.elim
  |some n=>
   rw[e]at h;dsimp only at h;split at h;·rename_i hz;~\(z,n,rfl,e,hz,h H (.refl H) _ (.int _))
   ·~h.elim
 ·~h.elim
T! agc:∀{bs:List Bool} {us:List Value},Vals (bs.map V.bl) us->us=bs.map Value.bool
 |[],_,r=>by c! r;rfl
 |b::bs,_,r=>by
  cases r with
  |cons r1 r2=>c! r1;rw[agc r2];rfl
T! all_range(bs:List Bool):(List.range bs.length).all (λi=>bs.getD i false)=bs.all id:=by
 rw[Bool.eq_iff_iff];S![List.all_eq_true,List.mem_range,id];constructor
 ·intro h b hb
  o!⟨i,hi,rfl⟩:=List.getElem_of_mem hb;h!:=h i hi
  rwa [List.getD_eq_getElem?_getD,List.getElem?_eq_getElem hi]at this
 ·intro h i hi
  rw[List.getD_eq_getElem?_getD,List.getElem?_eq_getElem hi];~h _ (List.getElem_mem hi)
T! aib(hc:X.calm=true):jF X (.builtin "all") (λxs H Q=>∃(a:Addr) (bs:List Bool),xs=[.ref a]/\jy X.K H a (bs.map V.bl)/\Q (.bl (bs.all id)) H):=by
 intro pins s σ H xs us Q I r h;o!⟨a,bs,rfl,ha,q⟩:=h;o!⟨u,rfl,ru⟩:=vals1 r;c! ru;o!⟨its,rv,pl,hz⟩:=I.list ha;h! ei:=agc rv;subst ei;r! call_all_walk (wpAny_pyIter_list pl.isList ?_);h! hd:(X.A.in1).handled=none:=I.ok.hd hc;h! hne:a≠s.heap.objs.size:=Nat.ne_of_lt (by o!⟨o,e,_⟩:=pl.isList;~Heap.lt_size e);r!\(s.heap.objs.size,_,_,_,_,_,λi=>bs.getD i false,rfl,Walks.list hd s.heap.objs.size a hne (bs.map Value.bool).toArray,\(\(_,Heap.get?_push_size _ rfl,rfl,rfl),pl.isList.at λo e=>Heap.get?_push_of_some _ e),?_,λh' tk k=>?_)
 ·intro i v s2 Q2 E2 hv hq
  h!:v=Value.bool (bs.getD i false):=by
   S![List.getElem?_toArray,List.getElem?_map]at hv;cases e:bs[i]? with
   |none=>rw[e]at hv;c! hv
   |some b=>rw[e]at hv;c! hv;rw[List.getD_eq_getElem?_getD,e];rfl
  subst this;~wpAny_truthy_bool hq
 ·r!\(.bl (bs.all id),H,I.kept (t':=tk) λb o e=>k b o (by S![List.mem_singleton];~Nat.ne_of_lt (Heap.lt_size e)) (Heap.get?_push_of_some _ e),?_,q)
  show Value.bool _=Value.bool _;rw[List.size_toArray,List.length_map,all_range]
D! mR:List D->Option (List Bool)
 |[]=>some []
 |.bl b::r=>(mR r).map (b:: ·)
 |_=>none
T! bz.bools{K:W.Frag}{al:Addr->Prop}{H:Hp}:∀{vs:List V} {ds:List D} {bs:List Bool},bz K al H vs ds->mR ds=some bs->vs=bs.map V.bl
 |_,[],bs,r,h=>by c! r;c! h;rfl
 |_,.bl b::ds,bs,r,h=>by
  u! mR at h;o!⟨bs',h1,h2⟩:=Option.map_eq_some_iff.mp h;subst h2;cases r with
  |cons a q=>c! a;rw[bz.bools q h1];rfl
 |_,.non::_,_,_,h=>by c! h
 |_,.int _::_,_,_,h=>by c! h
 |_,.str _::_,_,_,h=>by c! h
 |_,.ty _::_,_,_,h=>by c! h
 |_,.ref _::_,_,_,h=>by c! h
 |_,.tup _::_,_,_,h=>by c! h
 |_,.lst _::_,_,_,h=>by c! h
 |_,.exc _ _ _::_,_,_,h=>by c! h
D! tX:R!
 |[.lst ds]=>match mR ds with
  |some bs=>.ok (.bl (bs.all id))
  |none=>.bad
 |_=>.bad
D! ahH:R!
 |[.lst ds]=>match mR ds with
  |some bs=>.ok (.bl (bs.any id))
  |none=>.bad
 |_=>.bad
T! JC(hc:X.calm=true):pC X E (.builtin "all") tX:=by
 r!\(_,aib hc,λal H xs ds Q fr r h=>?_);u! tX at h;split at h
 ·rename_i ds
  o!⟨v,rfl,q⟩:=bz.one r;o!⟨a,vs,rfl,h1,h2⟩:=q.yp;cases e:mR ds with
  |none=>rw[e]at h;~h.elim
  |some bs=>
   rw[e]at h;h! e2:=bz.bools h2 e;subst e2;~\(a,bs,rfl,h1,h H (.refl H) _ (.bl _))
 ·~h.elim
T! alK:xx X "str.startswith" (λx xs H Q=>∃i j,x=.str i/\xs=[.str j]/\Q (.bl (Txt.startswith i j)) H):=by
 intro pins s σ H x xs v us Q I rx rs h;o!⟨i,j,rfl,rfl,q⟩:=h;o!⟨t,rfl⟩:=rx;o!⟨u,rfl,t',rfl⟩:=vals1 rs;~SC.startswith \(.bl _,H,I,rfl,q)
D! Cr:D->R!
 |.str i,[.str j]=>.ok (.bl (Txt.startswith i j))
 |_,_=>.bad
T! acG:Dp X E "str" "str.startswith" Cr:=by
 r!\(_,alK,λal H x xs d ds Q fr rx rs h=>?_);u! Cr at h;split at h
 ·c! rx
  o!⟨v,rfl,q⟩:=bz.one rs;c! q;~\(_,_,rfl,rfl,h H (.refl H) _ (.bl _))
 ·~h.elim
D! ar6:D->R!
 |.str z,[.int i]=>if PadOk i=true then .ok (.str (Txt.zfill z i))else .bad
 |_,_=>.bad
D! du:D->R D
 |.str z=>if z.length<=sizeLine then .ok (.str z)else .bad
 |.int i=>if i.natAbs.log2<1920 then .ok (.str (toString i))else .bad
 |_=>.bad
T! qw{e:Expr}{f:Ev->R D}{pos:Pos}(he:DE X E e f):DE X E (.FormattedValue e (-1) none pos) (d1 du f):=by
 o!⟨t,p,r⟩:=he;r!\(λσ H Q=>t σ H λv H1=>(∃z,v=.str z/\z.length<=sizeLine/\Q (.str z) H1)\/∃i,v=.int i/\i.natAbs.log2<1920/\Q (.str (toString i)) H1,λpins s σ H Q I h=>?_,λP H0 al H σ ρ Q s h=>r _ _ _ _ _ _ _ s (Aft.mono (Aft.split h) λd H1 s1 h1 v rv=>?_))
 ·r! FormattedValue_plain (bM (p pins s σ H _ I h) λu s1 \(v,H1,I1,r1,q1)=>?_)
  rcases q1 with⟨z,rfl,hz,q⟩|⟨i,rfl,hz,q⟩
  ·o!⟨t1,rfl⟩:=r1
   ~formatField_str (λt' tk=>\(.str z,H1,I1.tok _,\(_,rfl),q)) hz
  ·o!⟨t1,rfl⟩:=r1
   ~formatField_int_small hz \(.str _,H1,I1.tok _,\(_,rfl),q)
 ·u! du at h1
  split at h1
  ·c! rv
   split at h1;·rename_i hz;~.inl \(_,rfl,hz,h1 H1 (.refl H1) _ (.str _))
   ·~h1.elim
  ·c! rv
   split at h1;·rename_i hz;~.inr \(_,rfl,hz,h1 H1 (.refl H1) _ (.str _))
   ·~h1.elim
  ·~h1.elim
D! DJ(X:Cx)(E:XK)(es:List Expr)(f:Str->Ev->R D):Prop:=∃t:Str->TE,(∀(out:Str) (pins:L!) (s:Shared) (σ:L2.St) (H:Hp) (Q:VK),I!->t out σ H Q->wpAny M! X.A (joinParts out (evalEach es X.env)) (EP X pins σ Q) X.xe s)/\
 ∀out P H0 al H σ ρ (Q:VK),RS X.K P H0 al H σ ρ->Aft X.K al E H (f out ρ) (λd H'=>∀v,Rep X.K al H' v d->Q v H')->t out σ H Q
D! iV(out:Str):Ev->R D:=λ_=>if out.length<=sizeLine then .ok (.str out)else .bad
D! b8(a:Ev->R D)(r:Str->Ev->R D)(out:Str):Ev->R D:=λρ=>(a ρ).bind λx=>match x with
 |.str y=>if(out++y).length<=sizeLine then r (out++y) ρ else .bad
 |_=>.bad
T! xK:DJ X E [] iV:=by
 r!\(λout _ H Q=>out.length<=sizeLine/\Q (.str out) H,λout pins s σ H Q I h=>joinParts_nil \(.str out,H,I.tok _,\(_,rfl),h.2) h.1,λout P H0 al H σ ρ Q s h=>?_);u! iV at h;split at h;·rename_i z;~\(z,h H (.refl H) _ (.str _))
 ·~h.elim
T! iU{e:Expr}{es:List Expr}{fa:Ev->R D}{fr:Str->Ev->R D}(ha:DE X E e fa)(hr:DJ X E es fr):DJ X E (e::es) (b8 fa fr):=by
 o!⟨ta,pa,ra⟩:=ha;o!⟨tr,pr,rr⟩:=hr;r!\(λout σ H Q=>ta σ H λv H1=>∃y,v=.str y/\(out++y).length<=sizeLine/\tr (out++y) σ H1 Q,λout pins s σ H Q I h=>?_,λout P H0 al H σ ρ Q s h=>ra _ _ _ _ _ _ _ s (Aft.mono (Aft.split h) λd H1 s1 h1 v rv=>?_))
 ·show wpAny _ _ (joinParts out (eval e X.env::evalEach es X.env)) _ _ _
  r! joinParts_cons (bM (pa pins s σ H _ I h) λu s1 \(v,H1,I1,r1,y,e1,z,q)=>?_);subst e1;o!⟨t1,rfl⟩:=r1;~\(z,pr _ pins s1 σ H1 Q I1 q)
 ·cases rv with
  |str y=>
   dsimp only at h1;split at h1;·rename_i z;~\(y,rfl,z,rr _ _ _ _ _ _ _ _ (s.grow s1) h1)
   ·~h1.elim
  |_=>~(h1:False).elim
T! xH{e1 e2:Expr}{es:List Expr}{f:Str->Ev->R D}{pos:Pos}(h:DJ X E (e1::e2::es) f):DE X E (.JoinedStr (e1::e2::es) pos) (f Str.empty):=by
 o!⟨t,p,r⟩:=h;~\(t Str.empty,λpins s σ H Q I h=>JoinedStr_many (p Str.empty pins s σ H Q I h),r Str.empty)
end
end P2
namespace P2
open PySem L2 PyProof.Rows
D! wE(K:W.Frag)(E:XK)(f:Ev->R D):TE:=λσ H Q=>∃P H0 al ρ,RS K P H0 al H σ ρ/\Aft K al E H (f ρ) (λd H'=>∀v,Rep K al H' v d->Q v H')
D! wT(K:W.Frag)(E:XK)(f:Ev->R Bool):TT:=λσ H Q=>∃P H0 al ρ,RS K P H0 al H σ ρ/\Aft K al E H (f ρ) Q
D! wG(K:W.Frag)(l:List Nat)(a:D->Ev->Option Ev):TG:=λv σ H Q=>∃P H0 al ρ d,RS K P H0 al H σ ρ/\Rep K al H v d/\∃cP,a d ρ=some cP/\∀σ',Kp l σ σ'->RS K P H0 al H σ' cP->Q σ' H
T! DE.w{X:Cx}{E:XK}{e:Expr}{f:Ev->R D}(h:DE X E e f):PE X e (wE X.K E f):=by
 o!⟨t,p,r⟩:=h;intro pins s σ H Q I hq;o!⟨P,H0,al,ρ,s1,a⟩:=hq;~p pins s σ H Q I (r P H0 al H σ ρ Q s1 a)
T! DT.w{X:Cx}{E:XK}{e:Expr}{f:Ev->R Bool}(h:DT X E e f):PT X e (wT X.K E f):=by
 o!⟨t,p,r⟩:=h;intro pins s σ H Q I hq;o!⟨P,H0,al,ρ,s1,a⟩:=hq;~p pins s σ H Q I (r P H0 al H σ ρ Q s1 a)
T! DG.w{X:Cx}{tg:Expr}{l:List Nat}{a:D->Ev->Option Ev}(h:DG X tg l a):PG X tg (wG X.K l a):=by
 o!⟨t,p,r⟩:=h;intro pins s σ H v u Q I rv hq;o!⟨P,H0,al,ρ,d,s1,rd,a⟩:=hq;~p pins s σ H v u Q I rv (r P H0 al H σ ρ v d Q s1 rd a)
D! vh(X:Cx)(ifs:List Expr)(f:Ev->R Bool):Prop:=PF X ifs (wT X.K (λ_ _ _=>False) f)
T! Eg{X:Cx}:vh X [] (λ_=>.ok true):=λpins s σ H Q I h=>by
 o!⟨P,H0,al,ρ,s1,a⟩:=h;~an7 pins s σ H Q I (a H (.refl H))
T! aaU{X:Cx}{c:Expr}{f:Ev->R Bool}(h:DT X (λ_ _ _=>False) c f):vh X [c] f:=an8 h.w
D! j6(tn:Nat)(ci:List Nat)(ρ:Ev):Ev:=List.replicate tn .no++ci.map λi=>match ρ[i]? with
 |some (.sh d)=>.sh d
 |_=>.no
D! G4{α:Type}:R α->Option α
 |.ok a=>some a
 |_=>none
D! GZ{α:Type}:Option α->R α
 |some a=>.ok a
 |none=>.bad
D! jA(a:D->Ev->Option Ev)(c:Ev->R Bool)(e:Ev->R D)(kE:Ev):List D->Option (List D)
 |[]=>some []
 |d::r=>(a d kE).bind λdW=>(G4 (c dW)).bind λb=>if b=true then(G4 (e dW)).bind λv=>(jA a c e kE r).bind λvs=>some (v::vs)else jA a c e kE r
D! kZ(fi:Ev->R (List D))(tn:Nat)(ci:List Nat)(a:D->Ev->Option Ev)(c:Ev->R Bool)(e:Ev->R D):Ev->R (List D):=λρ=>(fi ρ).bind λds=>if ds.length<=sizeLine then GZ (jA a c e (j6 tn ci ρ) ds)else .bad
T! acR{α:Type}{r:R α}{a:α}(h:G4 r=some a):r=.ok a:=by
 cases r with
 |ok x=>c! h;rfl
 |ex _ _ _=>c! h
 |bad=>c! h
T! apk{K:W.Frag}{P:Addr->Prop}{H0 H2:Hp}{al aG:Addr->Prop}{σ:L2.St}{ρ:Ev}{H1:Hp}(s:RS K P H0 al H1 σ ρ)(x:Xt al H1 aG H2)(sm:gr K H1 H2)(fr:∀a,H2 a=none->aG a)(sub:∀a,aG a->al a)(tn:Nat)(ci:List Nat):
    RS K al H1 aG H2 (nH tn ci σ) (j6 tn ci ρ) where
 same:=sm
 tt:=sm.tt s.tt
 fresh:=fr
 sub:=sub
 pf:=s.fresh
 len:=by u! nH j6;simp
 sh:=λj d h=>by
  u! j6 at h;by_cases hj:j<tn;·rw[List.getElem?_append_left (by simpa using hj),List.getElem?_replicate,if_pos hj]at h;c! h
  ·rw[List.getElem?_append_right (by simpa using hj),List.length_replicate,List.getElem?_map]at h
   cases q:ci[j - tn]? with
   |none=>rw[q]at h;c! h
   |some i=>
    rw[q]at h;h! h':(match ρ[i]? with|some (.sh d)=>Sl.sh d|_=>.no)=.sh d:=Option.some.inj h;cases z:ρ[i]? with
    |none=>rw[z]at h';c! h'
    |some y=>
     rw[z]at h';cases y with
     |sh e=>
      c! h';o!⟨v,e1,e2⟩:=s.sh i d z;r!\(v,?_,e2.mv x);u! nH;rw[List.getElem?_append_right (by simpa using hj),List.length_replicate,List.getElem?_map,q];show some ((σ[i]?).getD none)=_;rw[e1];rfl
     |no=>c! h'
     |ow _=>c! h'
 ow:=λj d h=>by
  u! j6 at h;by_cases hj:j<tn;·rw[List.getElem?_append_left (by simpa using hj),List.getElem?_replicate,if_pos hj]at h;c! h
  ·rw[List.getElem?_append_right (by simpa using hj),List.length_replicate,List.getElem?_map]at h
   cases q:ci[j - tn]? with
   |none=>rw[q]at h;c! h
   |some i=>
    rw[q]at h;h! h':(match ρ[i]? with|some (.sh d)=>Sl.sh d|_=>.no)=.ow d:=Option.some.inj h;split at h'<;>c! h'
 apart:=λj k d d' b h _ _ _=>by
  exfalso;u! j6 at h;by_cases hj:j<tn;·rw[List.getElem?_append_left (by simpa using hj),List.getElem?_replicate,if_pos hj]at h;c! h
  ·rw[List.getElem?_append_right (by simpa using hj),List.length_replicate,List.getElem?_map]at h
   cases q:ci[j - tn]? with
   |none=>rw[q]at h;c! h
   |some i=>
    rw[q]at h;h! h':(match ρ[i]? with|some (.sh d)=>Sl.sh d|_=>.no)=.ow d:=Option.some.inj h;split at h'<;>c! h'
section
variable{X:Cx}{E:XK}{tg iter elt:Expr}{ifs:List Expr}{scope:Scope}{pos:Pos}{fi:Ev->R (List D)}{a:D->Ev->Option Ev}{fc:Ev->R Bool}{fe:Ev->R D}{cl:List (Str×Addr)}{tn:Nat}{Nt Nc:List Str}{ci l:List Nat}
D! vm(X:Cx)(E:XK)(e:Expr)(f:Ev->R (List D)):Prop:=∃t:TE,PE X e t/\Pg X e t/\
 ∀P H0 al H σ ρ (Q:VK),RS X.K P H0 al H σ ρ->Aft X.K al E H (f ρ) (λds H'=>∀p vs,H' p=none->bz X.K al H' vs ds->Q (.ref p) (upd H' p (.lst vs)))->t σ H Q
T! vm.dn{X:Cx}{E:XK}{e:Expr}{f:Ev->R (List D)}(h:vm X E e f):DN X E e f:=let\(t,p,_,r):=h;\(t,p,r)
T! QR(hc:X.calm=true)(hi:DI X E tg iter fi)(hg:∀fp s3 H3 C,DG (X.comp scope (Nt++Nc) cl fp s3 H3 C) tg l a)(hl:∀j∈l,j<tn)(hf:∀fp s3 H3 C,vh (X.comp scope (Nt++Nc) cl fp s3 H3 C) ifs fc)
    (he:∀fp s3 H3 C,DE (X.comp scope (Nt++Nc) cl fp s3 H3 C) (λ_ _ _=>False) elt fe)
    (hclos:closureFor scope X.env=pure cl)(hkind:scope.kind=.function)(hcell:∀y∈scope.names,y.2≠.cell)(hnames:∀x∈scope.names,x.2=.local->scope.names.lookup x.1=some .local)(uo:qb X cl Nc ci)(lg:Nt.length=tn)
    (hsub:∀x c,cl.lookup x=some c->X.env.cells.lookup x=some c)(hhas:∀x,((relabel scope X.env).names.lookup x=some .cell\/(relabel scope X.env).names.lookup x=some .free)->∃c,cl.lookup x=some c)
    (nU:∀x∈Nc,(relabel scope X.env).names.lookup x=some .cell\/(relabel scope X.env).names.lookup x=some .free)
    (hs:i!:=by intro _;rfl):vm X E (.ListComp elt [\(tg,iter,ifs,0)] scope pos) (kZ fi tn ci a fc fe):=by
 o!⟨wi,pi,ri⟩:=hi;r!\(_,anP (te:=wE X.K (λ_ _ _=>False) fe) (tc:=wT X.K (λ_ _ _=>False) fc) (g:=wG X.K l a) hc pi (λfp s3 H3 C=>(hg fp s3 H3 C).w) hf (λfp s3 H3 C=>(he fp s3 H3 C).w) hclos hkind hcell hnames uo lg hsub hhas nU hs,aoC (te:=wE X.K (λ_ _ _=>False) fe) (tc:=wT X.K (λ_ _ _=>False) fc) (g:=wG X.K l a) hc pi (λfp s3 H3 C=>(hg fp s3 H3 C).w) hf (λfp s3 H3 C=>(he fp s3 H3 C).w) hclos hkind hcell hnames uo lg hsub hhas nU hs,λP H0 al H σ ρ Q s h=>ri _ _ _ _ _ _ _ s (Aft.mono (Aft.split h) λds H1 s1 h1 J wk=>?_));intro p hp;by_cases hz:ds.length<=sizeLine
 ·rw[if_pos hz]at h1
  cases q:jA a fc fe (j6 tn ci ρ) ds with
  |none=>rw[q]at h1;~h1.elim
  |some out=>
   rw[q]at h1;h! s2:=s.grow s1
   let aG:Addr->Prop:=λb=>al b/\b≠p
   r!\(λi m H2=>∃done rest tW,out=done++rest/\jA a fc fe (j6 tn ci ρ) (ds.drop i)=some rest/\H2 p=some (.lst tW)/\bz X.K aG H2 tW done/\gr X.K H1 H2/\(∀b,H2 b=none->aG b)/\m=ds.length - i/\i<=ds.length/\done.length<=i,\(_,[],out,[],rfl,q,gG,.nil,mD hp,λb hb=>?_,rfl,Nat.zero_le _,Nat.le_refl _),?_)
   ·h! z:b≠p:=λw=>by rw[w,gG]at hb;c! hb
    rw[cD z]at hb;~\(s2.fresh b hb,z)
   ·rintro i m H2 ⟨done,rest,tW,e1,e2,e3,e4,e5,e6,rfl,e7,e8⟩
    h! x12:Xt al H1 aG H2:=λb o n hb w=>\(\(hb,qL w hp),e5.at' _ _ n w);o!⟨w1,w2⟩:=wk aG H2 x12 e6;by_cases hi:i<ds.length
    ·right
     h! ed:ds[i]?=some ds[i]:=List.getElem?_eq_getElem hi;o!⟨go,yl⟩:=w1 i _ ed;r!\(go,λx H3 y=>?_);o!⟨rfl,rx⟩:=yl x H3 y;rw[List.drop_eq_getElem_cons hi]at e2;u! jA at e2;o!⟨dW,a1,a2⟩:=Option.bind_eq_some_iff.mp e2;o!⟨b,a3,a4⟩:=Option.bind_eq_some_iff.mp a2;r!\(al,H1,aG,j6 tn ci ρ,ds[i],apk s2 x12 e5 e6 (λ_ z=>z.1) tn ci,rx,dW,a1,λnj kp s3=>\(\(?_,λj hj=>kp.2 j λw=>absurd (hl j w) o?),al,H1,aG,dW,s3,?_));·rw[kp.1,Qp]
     ·rw[acR a3]
      intro H5 s5;cases b with
      |false=>
       rw[if_neg Bool.false_ne_true]at a4⊢;~\(ds.length - (i+1),o?,done,rest,tW,e1,a4,s5.at' _ _ uD e3,e4.up s5,e5.trans s5,λb hb=>e6 b (s5.free hb),rfl,hi,o?)
      |true=>
       rw[if_pos rfl]at a4⊢;o!⟨v,a5,a6⟩:=Option.bind_eq_some_iff.mp a4;o!⟨vs,a7,a8⟩:=Option.bind_eq_some_iff.mp a6;c! a8;r!\(al,H1,aG,dW,s3.grow s5,?_);rw[acR a5];intro H6 s6 u ru;h! Q0:=s6.at' _ _ uD (s5.at' _ _ uD e3);h! x6:Xt aG H6 aG (upd H6 p (.lst (tW++[u]))):=λc o _ hc w=>\(hc,by rw[cD hc.2];~w);r!\(tW,Q0,by rw[e4.length];om,ds.length - (i+1),o?,done++[v],vs,tW++[u],by rw[e1];simp,a7,gG,((((e4.up s5).up s6).append (.cons ru .nil)).mv x6),?_,λc hc=>?_,rfl,hi,by rw[List.length_append];simp;om)
       ·~\(λc o n w=>by
          rw[cD (qL w hp)];~s6.at' _ _ n (s5.at' _ _ n (e5.at' _ _ n w)),λc w=>by
          by_cases z:c=p;· rw[z];~hp
          · rw[cD z]at w;~e5.fr c (s5.fr c (s6.fr c w)),λt=>(s6.tt (s5.tt (e5.tt t))).upd (Lz Q0).1 (Lz Q0).2)
       ·h! z:c≠p:=λw=>by rw[w,gG]at hc;c! hc
        rw[cD z]at hc;~e6 c (s5.free (s6.free hc))
    ·left
     h! ei:i=ds.length:=by om
     rw[List.drop_eq_nil_of_le o?]at e2;c! e2;rw[List.append_nil]at e1;subst e1;r!\(w2 i o?,?_)
     let H':Hp:=λb=>if b=p then none else H2 b
     h! hH:upd H' p (.lst tW)=H2:=by
      funext b;by_cases z:b=p;·subst z;rw[gG,e3]
      ·rw[cD z];show(if b=p then none else H2 b)=_;rw[if_neg z]
     h! sm:gr X.K H1 H':=\(λb o n w=>by
      show(if b=p then none else H2 b)=_;rw[if_neg (qL w hp)];~e5.at' _ _ n w,λb w=>by
      by_cases z:b=p;· rw[z];~hp
      · h! w':(if b=p then none else H2 b)=none:=w
        rw[if_neg z]at w';~e5.fr b w',λt=>(e5.tt t).off (Lz e3).1 (Lz e3).2 λb z=>by show(if b=p then none else H2 b)=_;rw[if_neg z])
     rw[<-hH];r! h1 H' sm p tW (by show(if p=p then none else H2 p)=_;rw[if_pos rfl]) (e4.mv λb o _ hb w=>\(hb.1,?_));show(if b=p then none else H2 b)=_;rw[if_neg hb.2];~w
 ·rw[if_neg hz]at h1
  ~h1.elim
T! aa0(hc:X.calm=true)(hi:DI X E tg iter fi)(hg:∀fp s3 H3 C,DG (X.comp scope Nt [] fp s3 H3 C) tg l a)(hl:∀j∈l,j<tn)(hf:∀fp s3 H3 C,vh (X.comp scope Nt [] fp s3 H3 C) ifs fc)
    (he:∀fp s3 H3 C,DE (X.comp scope Nt [] fp s3 H3 C) (λ_ _ _=>False) elt fe)
    (hfree:∀y∈scope.names,y.2≠.free)(hkind:scope.kind=.function)(hcell:∀y∈scope.names,y.2≠.cell)(hnames:∀x∈scope.names,x.2=.local->scope.names.lookup x.1=some .local)(lg:Nt.length=tn)
    (hs:i!:=by intro _;rfl):vm X E (.ListComp elt [\(tg,iter,ifs,0)] scope pos) (kZ fi tn [] a fc fe):=by
 h! e:relabel scope X.env=scope:=by
  h!:scope.names.map (λ(n,k)=>if(k==NameKind.free&&X.env.scope.kind==.function&&X.env.kindOf n==some .cell)then(n,NameKind.cell)else(n,k))=scope.names:=by
   r! map_eq_self λy hy=>?_;o!⟨n,k⟩:=y;h!:(k==NameKind.free)=false:=by simpa using hfree _ hy
   simp[this]
  u! relabel;rw[this]
 r! QR (cl:=[]) (Nc:=[]) (ci:=[]) hc hi (by rw[List.append_nil];~hg) hl (by rw[List.append_nil];~hf) (by rw[List.append_nil];~he) (closureFor_none hfree) hkind hcell hnames .nil lg (λx c z=>nomatch z) (λx z=>?_) (λx z=>nomatch z) hs;rw[e]at z;rcases z with z|z;·~absurd rfl (hcell _ (PySem.mem_of_lookup z))
 ·~absurd rfl (hfree _ (PySem.mem_of_lookup z))
T! JN(hc:X.calm=true)(hi:DI X E tg iter fi)(hg:∀fp s3 H3 C,DG (X.comp scope Nt [] fp s3 H3 C) tg l a)(hl:∀j∈l,j<tn)(hf:∀fp s3 H3 C,vh (X.comp scope Nt [] fp s3 H3 C) ifs fc)
    (he:∀fp s3 H3 C,DE (X.comp scope Nt [] fp s3 H3 C) (λ_ _ _=>False) elt fe)
    (hfree:∀y∈scope.names,y.2≠.free)(hkind:scope.kind=.function)(hcell:∀y∈scope.names,y.2≠.cell)(hnames:∀x∈scope.names,x.2=.local->scope.names.lookup x.1=some .local)(lg:Nt.length=tn)
    (hs:i!:=by intro _;rfl):DN X E (.ListComp elt [\(tg,iter,ifs,0)] scope pos) (kZ fi tn [] a fc fe):=(aa0 hc hi hg hl hf he hfree hkind hcell hnames lg hs).dn
end
D! Ji(x:Str):It:=\(λi _=>i<x.cps.size,λi H v H'=>H'=H/\∃c,x.cps[i]?=some c/\v=.str \(#[c]),λi _=>x.cps.size<=i)
T! arE{P:Program}{w:World}{K:W.Frag}{tg:Expr}(x:Str)(t:Tok)(it:Addr):Turn P w K tg (Ji x) [it] it (λi h=>h.IsStrIter it "str_ascii_iterator" x t i) where
 mem:=by simp
 obj:=λi h st b hb=>by
  h! e:b=it:=by simpa using hb
  subst e;o!⟨o,e,c,d⟩:=st;~\(o,e,λv z=>by rw[d]at z;cases z)
 keep:=λi h h' st k=>let\(o,ho,r):=st;\(o,k it (by simp) o ho,r)
 item:=by
  intro X hP hw hK Gf i pins s σ H E I hf st hg;subst hP hw hK;o!⟨f0,f1,f2,f3,f4,f5⟩:=hf it (by simp);h! ur:i<x.cps.size:=hg;r! wpAny_pyNext_ascii_item st (c:=x.cps[i]) (by simp[ur]) λh' lU sb=>?_;h! I1:Inv X pins σ H {s with heap:=h',toks:=s.toks+1}:=I.turned (λb o hb e=>(sb.2 b hb).trans e) f0 f1 f3 f4 f5;o!⟨o,e,c,d⟩:=id lU;~\(_,rfl,Ao (s:={s with heap:=h',toks:=s.toks+1}) e c d d? \(.str \(#[x.cps[i]]),H,I1,\(_,rfl),\(rfl,x.cps[i],by simp[ur],rfl),lU,λb hb=>(hf b hb).1))
 done:=by
  intro X hP hw hK Gf i pins s σ H E I hf st hg;subst hP hw hK;o!⟨f0,f1,f2,f3,f4,f5⟩:=hf it (by simp);h! ur:x.cps.size<=i:=hg;~wpAny_pyNext_ascii_end (I.ok.hd Gf) st (by simp[ur]) λh' eb=>\(rfl,I.turned (t':=s.toks) (λb o hb e=>eb b o hb e) f0 f1 f3 f4 f5)
 self:=λ_ _ _ _ _ st h=>wpAny_pyIter_striter_ascii st h
T! arI{P:Program}{w:World}{K:W.Frag}{tg:Expr}(x:Str)(t:Tok)(it:Addr):Turn P w K tg (Ji x) [it] it (λi h=>h.IsStrIter it "str_iterator" x t i) where
 mem:=by simp
 obj:=λi h st b hb=>by
  h! e:b=it:=by simpa using hb
  subst e;o!⟨o,e,c,d⟩:=st;~\(o,e,λv z=>by rw[d]at z;cases z)
 keep:=λi h h' st k=>let\(o,ho,r):=st;\(o,k it (by simp) o ho,r)
 item:=by
  intro X hP hw hK Gf i pins s σ H E I hf st hg;subst hP hw hK;o!⟨f0,f1,f2,f3,f4,f5⟩:=hf it (by simp);h! ur:i<x.cps.size:=hg;r! wpAny_pyNext_wide_item st (c:=x.cps[i]) (by simp[ur]) λh' lU sb=>?_;h! I1:Inv X pins σ H {s with heap:=h',toks:=s.toks+1}:=I.turned (λb o hb e=>(sb.2 b hb).trans e) f0 f1 f3 f4 f5;o!⟨o,e,c,d⟩:=id lU;~\(_,rfl,Ao (s:={s with heap:=h',toks:=s.toks+1}) e c d d? \(.str \(#[x.cps[i]]),H,I1,\(_,rfl),\(rfl,x.cps[i],by simp[ur],rfl),lU,λb hb=>(hf b hb).1))
 done:=by
  intro X hP hw hK Gf i pins s σ H E I hf st hg;subst hP hw hK;o!⟨f0,f1,f2,f3,f4,f5⟩:=hf it (by simp);h! ur:x.cps.size<=i:=hg;~wpAny_pyNext_wide_end (I.ok.hd Gf) st (by simp[ur]) λh' eb=>\(rfl,I.turned (t':=s.toks) (λb o hb e=>eb b o hb e) f0 f1 f3 f4 f5)
 self:=λ_ _ _ _ _ st h=>wpAny_pyIter_striter_wide st h
section
variable{X:Cx}{E:XK}{tg e:Expr}{f:Ev->R D}
D! ake(tl:TE):TI:=λσ H R=>tl σ H λx H1=>∃z,x=.str z/\R (Ji z) H1
T! aob{l:Expr}{tl:TE}(hl:PE X l tl):PI X tg l (ake tl):=by
 intro pins s σ H R I h;r! bM (hl pins s σ H _ I h) λv s1 \(x,H1,I1,r1,q1)=>?_;o!⟨z,e,q⟩:=q1;subst e;o!⟨t,rfl⟩:=r1;h! fp:∀b∈[s1.heap.objs.size],tQ X pins H1 b:=λb hb=>by
  h! e:b=s1.heap.objs.size:=by simpa using hb
  subst e;~I1.Ep n! (I1.hok.fresh n!)
 cases ha:z.cps.all (· <128)with
 |true=>
  r! wpAny_pyIter_ascii ha ?_;~\(s1.heap.objs.size,[s1.heap.objs.size],_,_,H1,rfl,I1.kept (t':=s1.toks) λb o e=>Heap.get?_push_of_some _ e,arE z t _,\(_,Heap.get?_push_size _ rfl,rfl,rfl),fp,q)
 |false=>
  r! wpAny_pyIter_wide ha ?_;~\(s1.heap.objs.size,[s1.heap.objs.size],_,_,H1,rfl,I1.kept (t':=s1.toks) λb o e=>Heap.get?_push_of_some _ e,arI z t _,\(_,Heap.get?_push_size _ rfl,rfl,rfl),fp,q)
D! signs(z:Str):List D:=z.cps.toList.map λc=>.str \(#[c])
T! arV{K:W.Frag}{al:Addr->Prop}{H:Hp}{z:Str}:Wk K al H (Ji z) (signs z):=by
 intro aG H' x fr;r!\(λi d h=>?_,λi h=>?_)
 ·u! signs at h
  rw[List.getElem?_map,Array.getElem?_toList]at h;cases q:z.cps[i]? with
  |none=>rw[q]at h;c! h
  |some c=>
   rw[q]at h;c! h;r!\((Array.getElem?_eq_some_iff.mp q).1,λy za w=>\(w.1,?_));o!⟨c',e1,e2⟩:=w.2;rw[q]at e1;c! e1;subst e2;~.str _
 ·u! signs at h
  show z.cps.size<=i;simpa using h
D! jH(d:D):R (List D):=match d with
 |.lst ds=>.ok ds
 |.tup ds=>.ok ds
 |.str z=>.ok (signs z)
 |_=>.bad
T! ue(he:DE X E e f):DI X E tg e (λρ=>(f ρ).bind jH):=by
 o!⟨t,p,r⟩:=he;r!\(_,adf (an9 p) (adf (aoc p) (aob p)),λP H0 al H σ ρ R s h=>?_);dsimp only at h;cases q:f ρ with
 |bad=>rw[q]at h;~h.elim
 |ex c ns ds=>rw[q]at h;~.inl (r _ _ _ _ _ _ _ s (by rw[q];~h))
 |ok d=>
  rw[q]at h;cases d with
  |lst ds=>
   left;r! r _ _ _ _ _ _ _ s ?_;rw[q];intro H1 s1 v rv;o!⟨a,vs,e1,e2,e3⟩:=rv.yp;subst e1;~\(a,rfl,\(vs,e2),h H1 s1 _ (arT rv))
  |tup ds=>
   right;left;r! r _ _ _ _ _ _ _ s ?_;rw[q];intro H1 s1 v rv;o!⟨a,vs,e1,e2,e3⟩:=rv.Cy;subst e1;~\(a,rfl,\(vs,e2),h H1 s1 _ (arW rv))
  |str z=>
   right;right;r! r _ _ _ _ _ _ _ s ?_;rw[q];intro H1 s1 v rv;c! rv;~\(z,rfl,h H1 s1 _ arV)
  |_=>~(h:False).elim
end
D! tyName:D->Option String
 |.non=>some "NoneType"
 |.bl _=>some "bool"
 |.int _=>some "int"
 |.str _=>some "str"
 |.lst _=>some "list"
 |.tup _=>some "tuple"
 |_=>none
D! Be:List String:=["NoneType","bool","int","str","list","tuple"]
T! akG(K:W.Frag):∀T∈Be,∀n∈Be,W.kitOne K (.type T) (.type n)=some (T==n||(T=="bool"&&n=="int")):=by
 intro T hT n hn;S![Be,List.mem_cons,List.not_mem_nil,or_false]at hT hn;rcases hT with rfl|rfl|rfl|rfl|rfl|rfl<;>rcases hn with rfl|rfl|rfl|rfl|rfl|rfl<;>first|rfl|kernel_rfl
D! isD:R!
 |[d,.ty n]=>match tyName d with
  |some T=>if Be.contains n then .ok (.bl (T==n||(T=="bool"&&n=="int")))else .bad
  |none=>.bad
 |_=>.bad
section
variable{X:Cx}{E:XK}
D! ao3(X:Cx):List V->Hp->VK->Prop:=λxs H Q=>∃x n T,xs=[x,.ty n]/\Be.contains T=true/\Be.contains n=true/\
 ((x=.non/\T="NoneType")\/(∃b,x=.bl b/\T="bool")\/(∃i,x=.int i/\T="int")\/(∃z,x=.str z/\T="str")\/(∃a vs,x=.ref a/\jy X.K H a vs/\T="list")\/(∃a vs,x=.ref a/\lY X.K H a vs/\T="tuple"))/\Q (.bl (T==n||(T=="bool"&&n=="int"))) H
T! aif:jF X (.builtin "isinstance") (ao3 X):=by
 intro pins s σ H xs us Q I r h;o!⟨x,n,T,rfl,kT,kn,hx,q⟩:=h;o!⟨u,c,rfl,ru,rc⟩:=vals2 r;c! rc;h! e:=akG X.K T (by simpa using kT) n (by simpa using kn);h! fin:∀tk,EP X pins σ Q (.bool (T==n||(T=="bool"&&n=="int"))) {s with toks:=tk}:=λtk=>\(.bl _,H,I.tok tk,rfl,q);rcases hx with⟨rfl,rfl⟩|⟨b,rfl,rfl⟩|⟨i,rfl,rfl⟩|⟨z,rfl,rfl⟩|⟨a,vs,rfl,ha,rfl⟩|⟨a,vs,rfl,ha,rfl⟩;·c! ru;~W.kia_one W.kitx_none I.eY True.intro e (λz=>nomatch z) fin
 ·c! ru;~W.kia_one W.kitx_bool I.eY True.intro e (λz=>nomatch z) fin
 ·o!⟨t,rfl⟩:=ru;~W.kia_one W.kitx_int I.eY True.intro e (λz=>nomatch z) fin
 ·o!⟨t,rfl⟩:=ru;~W.kia_one W.kitx_str I.eY True.intro e (λz=>nomatch z) fin
 ·c! ru
  o!⟨its,_,pl,_⟩:=I.list ha;o!⟨o,k,e1,e2,_⟩:=pl;~W.kia_one W.kitx_list I.eY \(o,e1,e2) e (λz=>nomatch z) fin
 ·c! ru
  o!⟨its,_,pl,_⟩:=I.tuple ha;o!⟨o,e1,e2,_⟩:=pl;~W.kia_one W.kitx_tuple I.eY \(o,e1,e2) e (λz=>nomatch z) fin
T! aii:pC X E (.builtin "isinstance") isD:=by
 r!\(_,aif,λal H xs ds Q fr r h=>?_);u! isD at h;split at h
 ·rename_i d n
  o!⟨v,u,rfl,q,q2⟩:=bz.two r;c! q2;cases e:tyName d with
  |none=>rw[e]at h;~h.elim
  |some T=>
   rw[e]at h;dsimp only at h;split at h
   ·rename_i hn
    h! hq:=h H (.refl H) _ (.bl _);cases q with
    |non=>c! e;~\(_,n,_,rfl,rfl,hn,.inl \(rfl,rfl),hq)
    |bl b=>c! e;~\(_,n,_,rfl,rfl,hn,.inr (.inl \(b,rfl,rfl)),hq)
    |int b=>c! e;~\(_,n,_,rfl,rfl,hn,.inr (.inr (.inl \(b,rfl,rfl))),hq)
    |str b=>c! e;~\(_,n,_,rfl,rfl,hn,.inr (.inr (.inr (.inl \(b,rfl,rfl)))),hq)
    |lst p _=>c! e;~\(_,n,_,rfl,rfl,hn,.inr (.inr (.inr (.inr (.inl \(_,_,rfl,p.elim (λz=>.inl z.2) KL.sq,rfl))))),hq)
    |tup p _=>c! e;~\(_,n,_,rfl,rfl,hn,.inr (.inr (.inr (.inr (.inr \(_,_,rfl,p.elim (λz=>.inl z.2) .inr,rfl))))),hq)
    |_=>c! e
   ·~h.elim
 ·~h.elim
end
end P2
namespace P2
open PySem L2 PyProof.Rows
T! rP:bootBuiltins "isinstance"=some (.builtin "isinstance"):=by decide+kernel
T! iu:bootBuiltins "len"=some (.builtin "len"):=by decide+kernel
T! Qh:bootBuiltins "abs"=some (.builtin "abs"):=by decide+kernel
T! Qi:bootBuiltins "max"=some (.builtin "max"):=by decide+kernel
T! Jy:bootBuiltins "all"=some (.builtin "all"):=by decide+kernel
T! vN:bootBuiltins "int"=some (.type "int"):=by decide+kernel
T! aar:bootBuiltins "bool"=some (.type "bool"):=by decide+kernel
T! ud:bootBuiltins "str"=some (.type "str"):=by decide+kernel
T! aas:bootBuiltins "tuple"=some (.type "tuple"):=by decide+kernel
section
variable{X:Cx}{E:XK}{x:Str}{pos:Pos}
inductive oO(mg:G!)(x:Str):D->Prop
 |int {i:Int} {t:Tok}:mg x=some (.int i t)->oO mg x (.int i)
 |str {z:Str} {t:Tok}:mg x=some (.str z t)->oO mg x (.str z)
T! rY{d:D}(hg:Gl X x)(h:oO X.mg x d)(hdb:E!:=by decide):DE X E (.Name x pos) (dC d):=by
 cases h with
 |@int i t h=>~QJ (v:=.int i) hg h \(t,rfl) (λ_ _=>.int _) hdb
 |@str z t h=>~QJ (v:=.str z) hg h \(t,rfl) (λ_ _=>.str _) hdb
end
section
variable{P:Program}{w:World}{K:W.Frag}{mg:G!}{base:Heap}
T! amv{cn:Str}{st:Stmt}{fI:Addr}{fd:FuncData}{C:Addr}{field:Str}{k:Nat}{body:List Stmt}(c:vI K C fI field)(F:cF K "__init__" cn st fI fd)(S:b7 ["self",field] ["self",field] (bf st)){p1 p2 p3 p4:Pos}
    (hb:d7 st=[.Assign [.Attribute (.Name "self" p1) field p2] (.Name field p3) p4])(h1:(bf st).names.lookup ("self":Str)=some .local)(h2:(bf st).names.lookup field=some .local)(hd:(field==("__debug__":Str))=false)(hd2:(field==("__classdict__":Str))=false):
    fM P w K mg base mL (k+1) fI fd ["self",field] (o6 C field):=by
 r! F.ok S (λvs H Q E h=>?_) (λcdv A outer s H vs Q E hr h=>?_);·o!⟨e,t,v,rfl,_⟩:=h;rfl
 o!⟨e,t,v,rfl,he,q⟩:=h;rw[hb];r!\(_,U6 (aos c (Bv (i:=0) rfl (.inl h1)) (Bv (i:=1) rfl (.inl h2) hd hd2) (by rfl)),?_);~\(v,rfl,.ref e,rfl,e,t,rfl,he,λdx h3 h4=>q dx h3 h4)
end
end P2
namespace Fx
open PySem
section
variable{prog:Program}{w:World}{A:Around}{E:B!}{h:Heap}{g:Array GenState}{d:Drawn}{t:Nat}{os:OsState}
variable{nm q:Str}{C N:Addr}{bs bm bmB:List Value}{hdct:Bool}{sn:List Str}{sub:List Value}{ab:Bool}{col:Option Bool}{dd:Option Addr}{k0 k1 k2 k3 k5:Option Value}{newId:String}
T! aiv{x:Addr}{o:Obj}{R:Result->Shared->Prop}(hC:h.get? C=some (excClassObj nm q C N bs bm hdct sn sub ab col dd k0 k1 k2 k3 k5 newId))(hob:bm.contains (.type "object")=true)
    (hx:h.get? x=some o)(hc:o.cls=.ref C)(hq:R (.ok (.ret (.ref C))) \(h,g,d,t,os)):
    codeAny N! A (.call (.builtin "getset_descriptor.__get__") \([.builtin "object.__class__",.ref x,.ref C],[])) R \(h,g,d,t,os):=by
 h! KZ:(\(h,g,d,t,os):Shared).TypeIs (.builtin "object.__class__") "getset_descriptor":=PySem.F.typeOf_object_class;h! ow:".".intercalate ("object.__class__".cutAt '.').dropLast="object":=by decide+kernel
 h! um:(Value.ref C::bm).contains (.type (".".intercalate ("object.__class__".cutAt '.').dropLast))=true:=by rw[ow,List.contains_cons,hob,Bool.or_true]
 r! codeAny_call_builtin PySem.F.slot_gs_get.plain PySem.F.entry_gs_get (PySem.F.slot_gs_get.check _ _ _ _ _ _ _ _ KZ (PySem.F.args_gs_get _ _ _) ?_);repeat(any_goals(first|assumption|(with_reducible r! wpAny_loadPart_at hx ?_;rw[hc])|(with_reducible r! wpAny_isSubtype_exc hC ?_;rw[um])|wp_step))
 r!\(Code.quiet_builtin _ k?,codeAny_builtin PySem.F.entry_object_class ?_);repeat(any_goals(first|assumption|(with_reducible r! wpAny_loadPart_at hx ?_;rw[hc])|wp_step))
T! aiu{x:Addr}{o:Obj}{tk:Tok}{Q:Fin->Shared->Prop}(hC:h.get? C=some (excClassObj nm q C N bs bm hdct sn sub ab col dd k0 k1 k2 k3 k5 newId))(hob:bm.contains (.type "object")=true)
    (l3:qi h C "__class__" (some (.builtin "object.__class__")))(hx:h.get? x=some o)(hc:o.cls=.ref C)(hq:Q (.done (.ret (.ref C))) \(h,g,d,t,os)):
    wpAny N! A (Builtin.«object.__getattribute__» \([.ref x,.str "__class__" tk],[])) Q E \(h,g,d,t,os):=by
 h! KZ:(\(h,g,d,t,os):Shared).TypeIs (.builtin "object.__class__") "getset_descriptor":=PySem.F.typeOf_object_class;h! f5:=PySem.F.typeOf_object_class;h! f6:=PySem.F.slot_gs_get.lookup;h! f7:=PySem.F.slot_gs_set.lookup;repeat(any_goals(first|assumption|(with_reducible r! wpAny_loadPart_at hx ?_;rw[hc])|with_reducible r! l3 _ _ _ _ _ _ _ _ ?_|wp_step))
 r! aiv hC hob hx hc ?_;repeat(any_goals(first|assumption|wp_step))
T! aiq{M:Model}{x:Addr}{o:Obj}{nv:Value}{Q:Unit->Shared->Prop}(hC:h.get? C=some (excClassObj nm q C N bs bm hdct sn sub ab col dd k0 k1 k2 k3 k5 newId))
    (hob:bm.contains (.type "BaseException")=true)(hx:h.get? x=some o)(hc:o.cls=.ref C)(hq:Q () \(h,g,d,t,os)):wpAny M A (checkBuiltinCall "BaseException.__getattribute__" \([.ref x,nv],[])) Q E \(h,g,d,t,os):=by
 h! hk:builtinKind "BaseException.__getattribute__"=some .slot:=by decide+kernel
 h! hsp:splitId "BaseException.__getattribute__"=some ("BaseException","__getattribute__"):=by decide+kernel
 h! um:(Value.ref C::bm).contains (.type "BaseException")=true:=by rw[List.contains_cons,hob,Bool.or_true]
 h! ha:=PySem.F.args_bexc_ga (.ref x) nv;S![checkBuiltinCall,hk,hsp];r! wpAny_bind ?_;u! isInstance;repeat(first|(with_reducible r! wpAny_loadPart_at hx ?_;rw[hc])|(with_reducible r! wpAny_isSubtype_exc hC ?_;rw[um])|wp_step)
 ~hq
T! ait{x:Addr}{o:Obj}{tk:Tok}{Q:B!}(hC:h.get? C=some (excClassObj nm q C N bs bm hdct sn sub ab col dd k0 k1 k2 k3 k5 newId))(hb:bm.contains (.type "BaseException")=true)(hob:bm.contains (.type "object")=true)
    (l1:qi h C "__getattribute__" (some (.builtin "BaseException.__getattribute__")))(l2:qi h C "__getattr__" none)(l3:qi h C "__class__" (some (.builtin "object.__class__")))(hx:h.get? x=some o)(hc:o.cls=.ref C)(hq:Q (.ref C) \(h,g,d,t,os)):
    wpAny N! A (getAttrBy (.ref x) (.str "__class__" tk) false) Q E \(h,g,d,t,os):=by
 h! FB:=PySem.F.attr_ValueError;h! f3:=FB.ga.bind (.ref x);h! z2:(Value.builtin "BaseException.__getattribute__"==Value.builtin "object.__getattribute__")=false:=by decide+kernel
 h! z1:(onTheHeap (Value.ref C)&&Value.builtin "BaseException.__getattribute__"==Value.builtin "object.__getattribute__")=false:=by rw[z2];rfl
 repeat(any_goals(first|assumption|(with_reducible r! wpAny_loadPart_at hx ?_;rw[hc])|with_reducible r! l1 _ _ _ _ _ _ _ _ ?_|with_reducible r! l2 _ _ _ _ _ _ _ _ ?_|wp_step))
 r! codeAny_call_builtin FB.ga.plain PySem.F.entry_bexc_ga (aiq hC hb hx hc (aiu hC hob l3 hx hc ?_));repeat(any_goals(first|assumption|wp_step))
T! ais{x:Addr}{o:Obj}{Q:Option Value->Shared->Prop}(hC:h.get? C=some (excClassObj nm q C N bs bm hdct sn sub ab col dd k0 k1 k2 k3 k5 newId))(hb:bm.contains (.type "BaseException")=true)(hob:bm.contains (.type "object")=true)
    (l1:qi h C "__getattribute__" (some (.builtin "BaseException.__getattribute__")))(l2:qi h C "__getattr__" none)(l3:qi h C "__class__" (some (.builtin "object.__class__")))(hx:h.get? x=some o)(hc:o.cls=.ref C)(hq:Q (some (.ref C)) \(h,g,d,t+1,os)):
    wpAny N! A (getAttr? (.ref x) "__class__") Q E \(h,g,d,t,os):=by
 u! getAttr? getAttrBy?;repeat(any_goals(first|assumption|with_reducible apply ait hC hb hob l1 l2 l3 hx hc|wp_step))
end
end Fx
namespace L2
open PySem PySem.Spec PyProof.Rows
structure rG(K:PySem.W.Frag)(C:Addr):Prop where
 ob:∀h:Heap,K.In h->∃nm q N bs bm hdct sn sub ab col dd k0 k1 k2 k3 k5 newId,h.get? C=some (excClassObj nm q C N bs bm hdct sn sub ab col dd k0 k1 k2 k3 k5 newId)/\bm.contains (.type "BaseException")=true/\bm.contains (.type "object")=true
 ga:PySem.W.findIn K (.ref C) "__getattribute__"=some (some (.builtin "BaseException.__getattribute__"))
 gn:PySem.W.findIn K (.ref C) "__getattr__"=some none
 cl:PySem.W.findIn K (.ref C) "__class__"=some (some (.builtin "object.__class__"))
T! vI.y{K:PySem.W.Frag}{C fI:Addr}{field:Str}(c:vI K C fI field)(cl:PySem.W.findIn K (.ref C) "__class__"=some (some (.builtin "object.__class__"))):rG K C:=by
 r!\(λh k=>?_,c.ga,c.gn,cl);o!⟨bm,N,nm,qn,bs,sn,sub,ab,col,dd,k0,k1,k2,k3,k5,all⟩:=Q5 c.cls;o!⟨hC,T,_⟩:=all _ k;~\(_,_,_,_,_,_,_,_,_,_,_,_,_,_,_,_,_,hC,T.hasType (by rfl),T.hasType (by rfl))
structure zp(K:PySem.W.Frag)(C:Addr):Prop where
 cls:PySem.W.excIn K C [.type "ValueError",.type "Exception",.type "BaseException",.type "object"] "ValueError.__new__"=true
 kp:PySem.W.keepIn K (.ref C)=true
 ga:PySem.W.findIn K (.ref C) "__getattribute__"=some (some (.builtin "BaseException.__getattribute__"))
 gn:PySem.W.findIn K (.ref C) "__getattr__"=some none
 cl:PySem.W.findIn K (.ref C) "__class__"=some (some (.builtin "object.__class__"))
T! zp.y{K:PySem.W.Frag}{C:Addr}(c:zp K C):rG K C:=by
 r!\(λh k=>?_,c.ga,c.gn,c.cl);o!⟨bm,NS,nm,qn,bs,hdct,sn,sub,ab,col,dd,k0,k1,k2,k3,k5,mN,hC,hN,v8,TL⟩:=aa8 k c.cls;~\(_,_,_,_,_,_,_,_,_,_,_,_,_,_,_,_,_,hC,TL.hasType (by rfl),TL.hasType (by rfl))
T! akH{K:PySem.W.Frag}{x C:Addr}(c:rG K C):PySem.W.KitX K (.ref x) (.ref C) (λh=>∃o,h.get? x=some o/\o.cls=.ref C) where
 ty:=λM h k p=>by
  o!⟨o,h1,h2⟩:=p;~h2▸(PySem.W.Looks.ld h1).andThen .now
 it:=λM h k p=>by
  o!⟨nm,q,N,bs,bm,hdct,sn,sub,ab,col,dd,k0,k1,k2,k3,k5,ni,hC,_⟩:=c.ob h k;intro A' Q' E' s' k' q';u! isType loadHead;~wpAny_bind (wpAny_loadPart (k' _ _ hC) (wpAny_pure q'))
 ne:=λh tp dd its n sl k htp=>by
  o!⟨nm,q,N,bs,bm,hdct,sn,sub,ab,col,rR,k0,k1,k2,k3,k5,ni,hC,_⟩:=c.ob h k;r! Bool.eq_false_iff.mpr λz=>?_;h! e:C=tp:=Value.ref.inj (beq_iff_eq.mp z);subst e;h! z:=congrArg Obj.cls (Option.some.inj (hC.symm.trans htp));h! z2:Value.type "type"=Value.type "tuple":=z;~absurd (Value.type.inj z2) d?
 ca:=λ{prog w A E Q s} k p hq=>by
  o!⟨o,h1,h2⟩:=p;o!⟨nm,q,N,bs,bm,hdct,sn,sub,ab,col,rR,k0,k1,k2,k3,k5,ni,hC,e1,e2⟩:=c.ob _ k;o!⟨h,g,d,t,os⟩:=s;~Fx.ais hC e1 e2 (HR k c.ga) (HR k c.gn) (HR k c.cl) h1 h2 hq
section
variable{X:Cx}
T! aih:jF X (.builtin "isinstance") (λxs H Q=>∃a c d cv u b,xs=[.ref a,cv]/\H a=some (JZ a c d)/\rG X.K c/\(∀z,RelV cv z->z=u)/\PySem.W.kitOne X.K (.ref c) u=some b/\Q (.bl b) H):=by
 intro pins s σ H xs us Q I r h;o!⟨a,c,d,cv,u,b,rfl,ha,yc,un,e,q⟩:=h;o!⟨u1,u2,rfl,r1,r2⟩:=vals2 r;cases un u2 r2;c! r1;o!⟨⟨oe,vs,h1,h2,h3,h4⟩,_,_⟩:=I.hok a _ ha;~PySem.W.kia_one (akH yc) I.eY \(oe,h1,h2) e (λz=>nomatch z) λtk=>\(.bl b,H,I.tok tk,rfl,q)
T! alL{K:PySem.W.Frag}{W:Addr}(cW:rG K W){Ce:Addr}(hs:PySem.W.kitOne K (.ref Ce) (.ref W)=some true)(h:Heap)(g:Array GenState)(d:Drawn)(tk:Nat)(os:OsState)(e:Addr)(oe:Obj)(M:Model)(A:Around)(E:B!)(Q:Bool->Shared->Prop)
    (k:K.In h)(he:h.get? e=some oe)(ho:oe.cls=.ref Ce)(hq:Q true \(h,g,d,tk,os)):wpAny M A (excMatches (.ref e) (.ref W)) Q E \(h,g,d,tk,os):=by
 o!⟨nm,q,N,bs,bm,hdct,sn,sub,ab,col,rR,k0,k1,k2,k3,k5,ni,hC,e1,e2⟩:=cW.ob _ k;u! PySem.W.kitOne at hs;split at hs
 ·rename_i z
  h!:Ce=W:=Value.ref.inj (beq_iff_eq.mp z);subst this;~wpAny_excMatches_sub_self hC he ho e1 hq
 ·o!⟨_,_,L⟩:=PySem.W.kit_cls (M:=M) k hs
  h! um:(Value.ref W::bm).contains (.type "BaseException")=true:=by rw[List.contains_cons,e1,Bool.or_true]
  h! f:=tc_notTuple;u! excMatches;repeat(first|(with_reducible r! wpAny_loadPart_at he ?_;rw[ho])|with_reducible r! wpAny_loadPart_at hC ?_|(with_reducible r! wpAny_isSubtype_exc hC ?_;rw[um])|wp_step)
  r! L.at ?_;repeat wp_step
  ~hq
end
end L2
namespace P2
open PySem L2 PySem.Spec
open PyProof.Rows hiding St
section
variable{X:Cx}{E:XK}{x:Str}{pos:Pos}
T! aim{f:Value}{r r':List V->Hp->VK->Prop}(h:jF X f r)(h':jF X f r'):jF X f (λxs H Q=>r xs H Q\/r' xs H Q):=
 λpins s σ H xs us Q I rx q=>q.elim (h pins s σ H xs us Q I rx) (h' pins s σ H xs us Q I rx)
D! aaH:D->Option Value
 |.ref C=>some (.ref C)
 |.ty T=>some (.type T)
 |_=>none
D! eX(q:Addr->Value->Option Bool)(ds:List D):R D:=match ds with
 |[.exc c _ _,d]=>(match(aaH d).bind (q c)with
  |some b=>.ok (.bl b)
  |none=>.bad)
 |ds=>isD ds
D! Dm(K:W.Frag)(q:Addr->Value->Option Bool):Prop:=∀c u b,q c u=some b->rG K c/\W.kitOne K (.ref c) u=some b
T! rQ{q:Addr->Value->Option Bool}(hI:Dm X.K q):pC X E (.builtin "isinstance") (eX q):=by
 o!⟨r0,c0,d0⟩:=aii (X:=X) (E:=E);r!\(_,aim aih c0,λal H xs ds Q fr r h=>?_);u! eX at h;split at h
 ·rename_i c ns es d
  o!⟨v,u,rfl,p,p2⟩:=bz.two r;left;cases z:(aaH d).bind (q c)with
  |none=>rw[z]at h;~h.elim
  |some b=>
   rw[z]at h;h! hq:=h H (.refl H) _ (.bl _);o!⟨w,z1,z2⟩:=Option.bind_eq_some_iff.mp z;o!⟨yc,kk⟩:=hI _ _ _ z2;h! ha:∃a dx,v=.ref a/\H a=some (JZ a c dx):=by
    cases p with
    |exc p1 p2 p3 p4 p5=>~\(_,_,rfl,p2)
    |El p1 p2=>~\(_,_,rfl,p2)
   o!⟨a,dx,rfl,ha⟩:=ha;r!\(a,c,dx,u,w,b,rfl,ha,yc,λy hy=>?_,kk,hq);cases p2 with
   |ref C=>c! z1;~hy
   |ty T=>c! z1;~hy
   |_=>c! z1
 ·~.inr (d0 al H xs ds Q fr r h)
mutual
noncomputable def Hd:D->Option PyData
 |.non=>some .none
 |.bl b=>some (.bool b)
 |.int i=>some (.int i)
 |.str z=>some (.str z)
 |.tup ds=>(oh ds).map .tuple
 |.lst ds=>(oh ds).map .list
 |_=>none
noncomputable def oh:List D->Option (List PyData)
 |[]=>some []
 |d::ds=>(Hd d).bind λp=>(oh ds).map (p:: ·)
end
mutual
theorem Nj{pins:L!}{σ:L2.St}{H:Hp}{s:Shared}(I:I!){al:Addr->Prop}:∀{v:V} {d:D} {u:Value} {p:PyData},Rep X.K al H v d->RelV v u->Hd d=some p->∃as,Reads s.heap u p as
 |_,_,_,_,.non,r,e=>by c! r;c! e;~\(_,.none)
 |_,_,_,_,.bl b,r,e=>by c! r;c! e;~\(_,.bool _)
 |_,_,_,_,.int b,r,e=>by o!⟨t,rfl⟩:=r;c! e;~\(_,.int _ _)
 |_,_,_,_,.str b,r,e=>by o!⟨t,rfl⟩:=r;c! e;~\(_,.str _ _)
 |_,_,_,_,.ty b,r,e=>by c! e
 |_,_,_,_,.ref b,r,e=>by c! e
 |_,_,_,_,.tup (vs:=vs) z q,r,e=>by
  c! r;h! e':(oh _).map PyData.tuple=some _:=e;o!⟨ps,e1,rfl⟩:=Option.map_eq_some_iff.mp e';h! z':lY X.K H _ vs:=z.elim (λz=>.inl z.2) .inr;o!⟨its,rv,⟨o,h1,h2,n,h3⟩,_⟩:=I.tuple z';o!⟨as,w⟩:=VG I q rv e1;~\(as,reads_tuple_at h1 h2 h3 (by simpa using w))
 |_,_,_,_,.lst (vs:=vs) z q,r,e=>by
  c! r;h! e':(oh _).map PyData.list=some _:=e;o!⟨ps,e1,rfl⟩:=Option.map_eq_some_iff.mp e';h! z':jy X.K H _ vs:=z.elim (λz=>.inl z.2) KL.sq;o!⟨its,rv,⟨o,n,h1,h2,h3,h4⟩,_⟩:=I.list z';o!⟨as,w⟩:=VG I q rv e1;~\(_,reads_list_at h1 h2 h4 (by simpa using w))
 |_,_,_,_,.exc _ _ _ _ _,r,e=>by c! e
 |_,_,_,_,.El _ _,r,e=>by c! e
theorem VG{pins:L!}{σ:L2.St}{H:Hp}{s:Shared}(I:I!){al:Addr->Prop}:∀{vs:List V} {ds:List D} {us:List Value} {ps:List PyData},bz X.K al H vs ds->Vals vs us->oh ds=some ps->∃as,ReadsAll s.heap us ps as
 |_,_,_,_,.nil,r,e=>by c! r;c! e;~\(_,.nil)
 |_,_,_,_,.cons p q,r,e=>by
  cases r with
  |cons r1 r2=>
   o!⟨p1,e1,e2⟩:=Option.bind_eq_some_iff.mp e;o!⟨ps,e3,rfl⟩:=Option.map_eq_some_iff.mp e2;o!⟨as,w1⟩:=Nj I p r1 e1;o!⟨bs,w2⟩:=VG I q r2 e3;~\(_,.cons w1 w2)
end
end
section
variable{X:Cx}{E:XK}{tg iter elt:Expr}{ifs:List Expr}{scope:Scope}{pos:Pos}{fi:Ev->R (List D)}{l:List Nat}{a:D->Ev->Option Ev}{fc:Ev->R Bool}{fe:Ev->R D}{tn:Nat}{Nt:List Str}
T! aiS{x:Str}(i:Nat){c:Addr}(nm:List (Str×NameKind))(hc:X.calm=true)(hi:DI X E tg iter fi)(hg:∀fp s3 H3 C,DG (X.comp scope (Nt++[x]) [(x,c)] fp s3 H3 C) tg l a)(hl:∀j∈l,j<tn)(hf:∀fp s3 H3 C,vh (X.comp scope (Nt++[x]) [(x,c)] fp s3 H3 C) ifs fc)
    (he:∀fp s3 H3 C,DE (X.comp scope (Nt++[x]) [(x,c)] fp s3 H3 C) (λ_ _ _=>False) elt fe)
    (hkind:scope.kind=.function)(hcell:∀y∈scope.names,y.2≠.cell)(hnames:∀x∈scope.names,x.2=.local->scope.names.lookup x.1=some .local)(lg:Nt.length=tn)
    (hN:X.N[i]?=some x)(hk:X.env.kindOf x=some .cell)(hcl:X.env.cells.lookup x=some c)(hclos:closureFor scope X.env=pure [(x,c)])(hrl:(relabel scope X.env).names=nm)
    (hnm:∀p∈nm,(p.2=.cell\/p.2=.free)->p.1=x)(nU:nm.lookup x=some .cell\/nm.lookup x=some .free)
    (hs:i!:=by intro _;rfl):vm X E (.ListComp elt [\(tg,iter,ifs,0)] scope pos) (kZ fi tn [i] a fc fe):=by
 r! QR (cl:=[(x,c)]) (Nc:=[x]) (ci:=[i]) hc hi hg hl hf he hclos hkind hcell hnames (.cons hN (.inl hk) (by rw[hcl];simp[List.lookup]) .nil) lg (λy d z=>?_) (λy z=>?_) (λy hy=>?_) hs
 ·by_cases w:y=x
  ·subst w;simp[List.lookup]at z;rw[hcl,z]
  ·h!:(y==x)=false:=by simpa using w
   simp[List.lookup,this]at z
 ·rw[hrl]at z
  h!:y=x:=z.elim (λq=>hnm _ (PySem.mem_of_lookup q) (.inl rfl)) λq=>hnm _ (PySem.mem_of_lookup q) (.inr rfl);subst this;~\(c,by simp[List.lookup])
 ·rw[List.mem_singleton]at hy
  subst hy;rw[hrl];~nU
T! aiR{x:Str}(i:Nat){c:Addr}(nm:List (Str×NameKind))(hc:X.calm=true)(hi:DI X E tg iter fi)(hg:∀fp s3 H3 C,DG (X.comp scope (Nt++[x]) [(x,c)] fp s3 H3 C) tg l a)(hl:∀j∈l,j<tn)(hf:∀fp s3 H3 C,vh (X.comp scope (Nt++[x]) [(x,c)] fp s3 H3 C) ifs fc)
    (he:∀fp s3 H3 C,DE (X.comp scope (Nt++[x]) [(x,c)] fp s3 H3 C) (λ_ _ _=>False) elt fe)
    (hkind:scope.kind=.function)(hcell:∀y∈scope.names,y.2≠.cell)(hnames:∀x∈scope.names,x.2=.local->scope.names.lookup x.1=some .local)(lg:Nt.length=tn)
    (hN:X.N[i]?=some x)(hk:X.env.kindOf x=some .cell)(hcl:X.env.cells.lookup x=some c)(hclos:closureFor scope X.env=pure [(x,c)])(hrl:(relabel scope X.env).names=nm)
    (hnm:∀p∈nm,(p.2=.cell\/p.2=.free)->p.1=x)(nU:nm.lookup x=some .cell\/nm.lookup x=some .free)
    (hs:i!:=by intro _;rfl):DN X E (.ListComp elt [\(tg,iter,ifs,0)] scope pos) (kZ fi tn [i] a fc fe):=
 (aiS i nm hc hi hg hl hf he hkind hcell hnames lg hN hk hcl hclos hrl hnm nU hs).dn
end
D! wy(q:Addr->Value->Option Bool)(W c:Addr):Bool:=q c (.ref W)==some true
T! alE{K:W.Frag}{q:Addr->Value->Option Bool}{W:Addr}(hI:Dm K q)(yW:rG K W)(h:Heap)(g:Array GenState)(d:Drawn)(tk:Nat)(os:OsState)(e Ce:Addr)(oe:Obj)(M:Model)(A:Around)(E:B!)(Q:Bool->Shared->Prop)
    (k:K.In h)(hc:wy q W Ce=true)(he:h.get? e=some oe)(ho:oe.cls=.ref Ce)(hq:Q true \(h,g,d,tk,os)):wpAny M A (excMatches (.ref e) (.ref W)) Q E \(h,g,d,tk,os):=
 alL yW (hI _ _ _ (beq_iff_eq.mp hc)).2 h g d tk os e oe M A E Q k he ho hq
end P2
namespace P2
open PySem L2 PySem.Spec
open PySem.Builtin PySem.Builtin.Str
open PyProof.Rows hiding St
section
variable{prog:Program}{w:World}{A:Around}{E:B!}{s:Shared}{x y:PySem.Str}{t u:Tok}{Q:B!}
T! aqs(hy:(y.length==0)=false)(hz:x.length+2<=sizeLine)
    (hq:∀(l:List (PySem.Str×Tok)) (k:Nat),l.map (·.1)=Txt.split x y->Q (.ref s.heap.objs.size) {s with heap:=s.heap.push {cls:=.type "list",data:=.seq (strValues l).toArray},toks:=k}):
    wpAny N! A (call (.builtin "str.split") [.str x t,.str y u]) Q E s:=by
 h! hsz:x.length<=sizeLine:=by om
 cases h1:(decide (x.length<y.length)||decide (strKind x<strKind y))
 ·cases hf:(occurrences x y 0 x.length (x.length+1)).isEmpty
  ·h! aj6:(partsBetween x (occurrences x y 0 x.length (x.length+1)) y.length).length<=sizeLine:=by
    h! e:Txt.split x y=partsBetween x (occurrences x y 0 x.length (x.length+1)) y.length:=(if_neg (ne_true_of_eq_false h1)).trans (if_neg (ne_true_of_eq_false hf));rw[<-e];~Nat.le_trans (split_le x y) hz
   r! call_meets F.slot_str_split (typeIs_str _ _ _) F.entry_str_split (F.args_str_split_2 _ _) (meets_str_split_sep x y t u h1 hy hf hsz aj6) ?_;show wants Q E _ {s with toks:=_,heap:=s.heap.push {cls:=.type "list",data:=.seq (strsFrom s.toks (partsBetween x (occurrences x y 0 x.length (x.length+1)) y.length)).toArray}};rw[strsFrom_eq];~hq (numbered s.toks _) _ ((numbered_texts _ _).trans ((if_neg (ne_true_of_eq_false h1)).trans (if_neg (ne_true_of_eq_false hf))).symm)
  ·~call_meets F.slot_str_split (typeIs_str _ _ _) F.entry_str_split (F.args_str_split_2 _ _) (meets_str_split_not_found x y t u h1 hy hf)
     (hq [(x,t)] _ ((if_neg (ne_true_of_eq_false h1)).trans (if_pos hf)).symm)
 ·~call_meets F.slot_str_split (typeIs_str _ _ _) F.entry_str_split (F.args_str_split_2 _ _) (meets_str_split_cannot_occur x y t u h1)
    (hq [(x,t)] _ (if_pos h1).symm)
end
T! age:∀(l:List (PySem.Str×Tok)),Vals ((l.map (·.1)).map V.str) (strValues l)
 |[]=>.nil
 |(a,t)::l=>.cons \(t,rfl) (age l)
section
variable{X:Cx}{E:XK}
T! alJ:xx X "str.split" (λx xs H Q=>∃z y,x=.str z/\xs=[.str y]/\(y.length==0)=false/\z.length+2<=sizeLine/\∀p,H p=none->Q (.ref p) (upd H p (.lst ((Txt.split z y).map V.str)))):=by
 intro pins s σ H x xs v us Q I rx rs h;o!⟨z,y,rfl,rfl,hy,hz,q⟩:=h;o!⟨t,rfl⟩:=rx;o!⟨u,rfl,t',rfl⟩:=vals1 rs;r! aqs hy hz λl k e=>?_;h! hv:=age l;rw[e]at hv;~\(.ref _,_,I.aci (t':=k) hv (by rw[List.length_map];~Nat.le_trans (split_le z y) hz),rfl,q _ I.fresh)
D! uN:D->R!
 |.str z,[.str y]=>if(y.length==0)=false/\z.length+2<=sizeLine then .ok (.lst ((Txt.split z y).map D.str))else .bad
 |_,_=>.bad
T! aeP{K:W.Frag}{al:Addr->Prop}{H:Hp}:∀l:List PySem.Str,bz K al H (l.map V.str) (l.map D.str)
 |[]=>.nil
 |_::l=>.cons (.str _) (aeP l)
T! S8:Dp X E "str" "str.split" uN:=by
 r!\(_,alJ,λal H x xs d ds Q fr rx rs h=>?_);u! uN at h;split at h
 ·c! rx
  o!⟨v,rfl,q⟩:=bz.one rs;c! q;split at h
  ·rename_i z
   ~\(_,_,rfl,rfl,z.1,z.2,λp hp=>h _ (mD hp) _ (bz.Gy (aeP _) hp (fr p hp)))
  ·~h.elim
 ·~h.elim
D! Mq(i j:Int):Bool:=(decide (-18446744073709551616<i)&&decide (i<18446744073709551616))||(decide (-18446744073709551616<j)&&decide (j<18446744073709551616))
end
end P2
namespace P2
open PySem L2 PySem.Spec
open PyProof.Rows hiding St
T! pP{CX:lW}{P:Program}{w:World}{K:W.Frag}{mg:G!}{base:Heap}{N:List Str}{qual:Str}{scope:Scope}{f:Addr}{cd:Value}{A:Around}{outer:List Env}{s:Shared}{H:Hp}{E:XK}:
    PassesOwn (model (jK CX P w K mg base N qual scope f cd A outer s H E).prog (jK CX P w K mg base N qual scope f cd A outer s H E).w) (jK CX P w K mg base N qual scope f cd A outer s H E).A (jK CX P w K mg base N qual scope f cd A outer s H E).env (jK CX P w K mg base N qual scope f cd A outer s H E).xe:=
 PassesOwn.leaving (Q₁:=λe Hw=>CX outer H s E e Hw)
section
variable{X:Cx}{E:XK}{e a b c tg:Expr}{f fa fb fc:Ev->R D}{pos:Pos}
D! apx(i j:Nat)(fs:Ev->R (List D)):Ev->RT:=λρ=>toS (fs ρ) λds=>match ds with
 |[d1,d2]=>if i<ρ.length/\j<ρ.length then .nx ((ρ.set i (.sh d1)).set j (.sh d2))else .bad
 |_=>.bad
D! aeY:D->D->Option Bool
 |.non,.non=>some true
 |.bl a,.bl b=>some (a==b)
 |.bl _,.non=>some false
 |.int _,.non=>some false
 |.str _,.non=>some false
 |.tup _,.non=>some false
 |.lst _,.non=>some false
 |_,_=>none
D! R5(x y:D):R D:=match aeY x y with
 |some b=>.ok (.bl b)
 |none=>.bad
D! R6(x y:D):R D:=match aeY x y with
 |some b=>.ok (.bl (!b))
 |none=>.bad
D! ig:D->Option Int->Option Int->R D
 |.tup ds,lo,hi=>if¬(HT.cM ds.length 0 lo=0/\HT.cM ds.length ds.length hi=ds.length)then .ok (.tup (cutD ds lo hi))else .bad
 |d,lo,hi=>HH d lo hi
T! Cq:Pk X E ig:=by
 o!⟨r0,s0,d0⟩:=aqj (X:=X) (E:=E);r!\(_,aqm.or s0,λal H x dx lo hi Q fr rx h=>?_);u! ig at h;split at h
 ·o!⟨a,vs,rfl,h1,h2⟩:=rx.Cy
  split at h
  ·rename_i z
   ~.inl \(a,vs,rfl,h1,by rw[h2.length];~z,λp hp=>h _ (mD hp) _ ((h2.cut lo hi).XS hp (fr p hp)))
  ·~h.elim
 ·~.inr (d0 _ _ _ _ _ _ _ fr rx h)
end
end P2
namespace P2
open PySem L2 PySem.Spec
open PyProof.Rows hiding St
section
variable{X:Cx}{E:XK}
D! lN(x:D)(ys:List D):Option Bool:=(Hd x).bind λp=>(oh ys).bind λps=>if(PyData.canLayAll0 ps&&PyData.canLay0 p&&decide (p.depth<=63))=true then some (ps.any λy=>PyData.eqv y p)else none
D! cT(x y:D):R D:=match y with
 |.lst ys=>(match lN x ys with
  |some b=>.ok (.bl b)
  |none=>.bad)
 |.tup ys=>(match lN x ys with
  |some b=>.ok (.bl b)
  |none=>.bad)
 |_=>mX x y
D! yr(x y:D):R D:=match y with
 |.lst ys=>(match lN x ys with
  |some b=>.ok (.bl (!b))
  |none=>.bad)
 |.tup ys=>(match lN x ys with
  |some b=>.ok (.bl (!b))
  |none=>.bad)
 |_=>.bad
T! abE{pins:L!}{σ:L2.St}{H:Hp}{s:Shared}(I:I!)(hu:X.A.units+64<cLine){al:Addr->Prop}{x y:V}{d:D}{ys:List D}{u v:Value}{b:Bool}(rd:Rep X.K al H x d)(rl:Rep X.K al H y (.lst ys)\/Rep X.K al H y (.tup ys))(rx:RelV x u)(ry:RelV y v)(e:lN d ys=some b):
    ∃p ps as bs,(Reads s.heap v (.list ps) as\/Reads s.heap v (.tuple ps) as)/\Reads s.heap u p bs/\PyData.canLayAll0 ps=true/\PyData.canLay0 p=true/\X.A.units+1+min (PyData.depthAll ps) p.depth<cLine/\(ps.any λy=>PyData.eqv y p)=b:=by
 o!⟨p,e1,e2⟩:=Option.bind_eq_some_iff.mp e;o!⟨ps,e3,e4⟩:=Option.bind_eq_some_iff.mp e2;split at e4
 ·rename_i z
  S![Bool.and_eq_true,decide_eq_true_eq]at z;o!⟨bs,w2⟩:=Nj I rd rx e1;h!:=Nat.min_le_right (PyData.depthAll ps) p.depth;rcases rl with rl|rl
  ·o!⟨as,w1⟩:=Nj (p:=.list ps) I rl ry (show(oh ys).map PyData.list=some _ by rw[e3];rfl)
   ~\(p,ps,as,bs,.inl w1,w2,z.1.1,z.1.2,o?,Option.some.inj e4)
  ·o!⟨as,w1⟩:=Nj (p:=.tuple ps) I rl ry (show(oh ys).map PyData.tuple=some _ by rw[e3];rfl)
   ~\(p,ps,as,bs,.inr w1,w2,z.1.1,z.1.2,o?,Option.some.inj e4)
 ·c! e4
T! pN(hu:X.A.units+64<cLine):je X E (compareOp .In) cT:=by
 o!⟨r0,o0,d0⟩:=Ms (X:=X) (E:=E);r!\(λx y H Q=>(∃al d ys b,Rep X.K al H x d/\(Rep X.K al H y (.lst ys)\/Rep X.K al H y (.tup ys))/\lN d ys=some b/\Q (.bl b) H)\/r0 x y H Q,λpins s σ H x y v u Q I rx ry h=>?_,λal H x y dx dy Q fr rx ry h=>?_)
 ·rcases h with⟨al,d,ys,b,h1,h2,h3,h4⟩|h
  ·o!⟨p,ps,as,bs,w1,w2,w3,w4,w5,w6⟩:=abE I hu h1 h2 rx ry h3
   rcases w1 with w1|w1;·~SeqAt.in_list_reads w1 w2 w3 w4 w5 (by rw[w6];~\(.bl b,H,I,rfl,h4))
   ·~SeqAt.in_tuple_reads w1 w2 w3 w4 w5 (by rw[w6];~\(.bl b,H,I,rfl,h4))
  ·~o0 pins s σ H x y v u Q I rx ry h
 ·u! cT at h
  split at h
  ·rename_i ys
   cases q:lN dx ys with
   |none=>rw[q]at h;~h.elim
   |some b=>rw[q]at h;~.inl \(al,dx,ys,b,rx,.inl ry,q,h H (.refl H) _ (.bl b))
  ·rename_i ys
   cases q:lN dx ys with
   |none=>rw[q]at h;~h.elim
   |some b=>rw[q]at h;~.inl \(al,dx,ys,b,rx,.inr ry,q,h H (.refl H) _ (.bl b))
  ·~.inr (d0 _ _ _ _ _ _ _ fr rx ry h)
T! acW(hu:X.A.units+64<cLine):je X E (compareOp .NotIn) yr:=by
 r!\(λx y H Q=>∃al d ys b,Rep X.K al H x d/\(Rep X.K al H y (.lst ys)\/Rep X.K al H y (.tup ys))/\lN d ys=some b/\Q (.bl (!b)) H,λpins s σ H x y v u Q I rx ry h=>?_,λal H x y dx dy Q fr rx ry h=>?_)
 ·o!⟨al,d,ys,b,h1,h2,h3,h4⟩:=h
  o!⟨p,ps,as,bs,w1,w2,w3,w4,w5,w6⟩:=abE I hu h1 h2 rx ry h3;rcases w1 with w1|w1;·~SeqAt.notIn_list_reads w1 w2 w3 w4 w5 (by rw[w6];~\(.bl (!b),H,I,rfl,h4))
  ·~SeqAt.notIn_tuple_reads w1 w2 w3 w4 w5 (by rw[w6];~\(.bl (!b),H,I,rfl,h4))
 ·u! yr at h
  split at h
  ·rename_i ys
   cases q:lN dx ys with
   |none=>rw[q]at h;~h.elim
   |some b=>rw[q]at h;~\(al,dx,ys,b,rx,.inl ry,q,h H (.refl H) _ (.bl (!b)))
  ·rename_i ys
   cases q:lN dx ys with
   |none=>rw[q]at h;~h.elim
   |some b=>rw[q]at h;~\(al,dx,ys,b,rx,.inr ry,q,h H (.refl H) _ (.bl (!b)))
  ·~h.elim
end
end P2
namespace L2
open PySem PySem.Spec PyProof.Rows
section
variable{X:Cx}{pos:Pos}
end
end L2
namespace P2
open PySem L2 PySem.Spec
open PyProof.Rows hiding St
section
variable{X:Cx}{E:XK}{a b c:Expr}{pos:Pos}
end
inductive xg:V->D->Prop
 |non:xg .non .non
 |bl (b:Bool):xg (.bl b) (.bl b)
 |int (i:Int):xg (.int i) (.int i)
 |str (x:Str):xg (.str x) (.str x)
inductive xj:List V->List D->Prop
 |nil:xj [] []
 |cons {v:V} {d:D} {vs:List V} {ds:List D}:xg v d->xj vs ds->xj (v::vs) (d::ds)
T! xg.rep{K:W.Frag}{al:Addr->Prop}{H:Hp}{v:V}{d:D}(h:xg v d):Rep K al H v d:=by
 cases h with
 |non=>~.non
 |bl b=>~.bl b
 |int i=>~.int i
 |str x=>~.str x
T! xj.aeN{K:W.Frag}{al:Addr->Prop}{H:Hp}:∀{vs:List V} {ds:List D},xj vs ds->bz K al H vs ds
 |_,_,.nil=>.nil
 |_,_,.cons p q=>.cons p.rep q.aeN
structure Dj(K:W.Frag)(mg:G!)(x:Str)(ds:List D):Prop where
 ex:∃(a:Addr) (vs:List V),mg x=some (.ref a)/\KT K a vs/\xj vs ds
T! aiL{X:Cx}{E:XK}{x:Str}{pos:Pos}{ds:List D}(hg:Gl X x)(h:Dj X.K X.mg x ds)(hdb:E!:=by decide):DE X E (.Name x pos) (dC (.tup ds)):=by
 o!⟨a,vs,h1,h2,h3⟩:=h.ex;~QJ (v:=.ref a) hg h1 rfl (λ_ _=>.tup (.inr h2) h3.aeN) hdb
T! afy:∀l:List (Str×Tok),Vals (l.map λp=>V.str p.1) (l.map λp=>Value.str p.1 p.2)
 |[]=>.nil
 |(_,t)::l=>.cons \(t,rfl) (afy l)
T! afx:∀l:List (Str×Tok),xj (l.map λp=>V.str p.1) (l.map λp=>D.str p.1)
 |[]=>.nil
 |(_,_)::l=>.cons (.str _) (afx l)
T! Dj.strs{K:W.Frag}{mg:G!}{x:Str}{a:Addr}{dd:Option Addr}{l:List (Str×Tok)}{n:Nat}{sl:Array (Option Value)}(hm:mg x=some (.ref a))(hl:K.lookup a=some \(.type "tuple",dd,.seq (l.map λp=>Value.str p.1 p.2).toArray n,sl))(hz:l.length<=sizeLine):
    Dj K mg x (l.map λp=>.str p.1):=by
 r!\(a,l.map λp=>.str p.1,hm,\(_,_,n,hl,rfl,rfl,by simpa using hz,?_),?_)
 ·rw[List.toList_toArray]
  ~afy l
 ·~afx l
end P2
namespace P2
open PySem L2 PySem.Spec
open PyProof.Rows hiding St
section
variable{X:Cx}{E:XK}{e:Expr}{fn:Ev->R (List D)}{pos:Pos}
T! aiX(i:Nat){x:Str}{pos':Pos}(hN:X.N.Nodup)(hi:X.N[i]?=some x)(hx:Loc X.env.scope x)(he:vm X E e fn)(hs:swapsWith e (some (.Name x pos')) pos.line X.env=pure true:=by rfl)(hf:V!:=by O!):
    DS X E (.Assign [.Name x pos'] e pos) (bZ i (jh fn)):=by
 o!⟨t,_,p,r⟩:=he;r!\(_,aoy hN hi hx p hs hf,λP H0 al H σ ρ D s h=>?_);h! h':gP X.K P H0 E D al H (toS (fn ρ) λds=>if i<ρ.length then .nx (ρ.set i (.sh (.lst ds)))else .bad):=by
  u! bZ jh at h;cases q:fn ρ with
  |ok ds=>rw[q]at h;~h
  |ex c ns es=>rw[q]at h;~h
  |bad=>rw[q]at h;~h.elim
 r! r _ _ _ _ _ _ _ s (Aft.mono (gP.Bq h' s) λds H1 s1 h1 q vs hq rv=>?_);by_cases z:i<ρ.length
 ·S![z,if_true]at h1
  h! sm:=mD (K:=X.K) (o:=HO.lst vs) hq;~h1 al _ _ (.of sm) (((s.grow s1).grow sm).set z (rv.Gy hq ((s.grow s1).fresh q hq)))
 ·S![z,if_false]at h1
  ~h1.elim
end
end P2
namespace P2
open PySem L2 PySem.Spec
open PyProof.Rows hiding St
section
variable{X:Cx}{E:XK}{tg iter elt:Expr}{ifs:List Expr}{scope:Scope}{pos:Pos}{fi:Ev->R (List D)}{l:List Nat}{a:D->Ev->Option Ev}{fc:Ev->R Bool}{fe:Ev->R D}{tn:Nat}{Nt:List Str}
T! aiT{x y:Str}(i j:Nat){c d:Addr}(nm:List (Str×NameKind))(hxy:x≠y)(hc:X.calm=true)(hi:DI X E tg iter fi)(hg:∀fp s3 H3 C,DG (X.comp scope (Nt++[x,y]) [(y,d),(x,c)] fp s3 H3 C) tg l a)(hl:∀j∈l,j<tn)(hf:∀fp s3 H3 C,vh (X.comp scope (Nt++[x,y]) [(y,d),(x,c)] fp s3 H3 C) ifs fc)
    (he:∀fp s3 H3 C,DE (X.comp scope (Nt++[x,y]) [(y,d),(x,c)] fp s3 H3 C) (λ_ _ _=>False) elt fe)
    (hkind:scope.kind=.function)(hcell:∀y∈scope.names,y.2≠.cell)(hnames:∀x∈scope.names,x.2=.local->scope.names.lookup x.1=some .local)(lg:Nt.length=tn)
    (hN:X.N[i]?=some x)(hk:X.env.kindOf x=some .cell)(hcl:X.env.cells.lookup x=some c)(hN2:X.N[j]?=some y)(hk2:X.env.kindOf y=some .cell)(abF:X.env.cells.lookup y=some d)(hclos:closureFor scope X.env=pure [(y,d),(x,c)])(hrl:(relabel scope X.env).names=nm)
    (hnm:∀p∈nm,(p.2=.cell\/p.2=.free)->p.1=x\/p.1=y)(nU:∀z∈[x,y],nm.lookup z=some .cell\/nm.lookup z=some .free)
    (hs:i!:=by intro _;rfl):vm X E (.ListComp elt [\(tg,iter,ifs,0)] scope pos) (kZ fi tn [i,j] a fc fe):=by
 h! b1:(x==y)=false:=by simpa using hxy
 h! l1:([(y,d),(x,c)]:List (Str×Addr)).lookup x=some c:=by simp[List.lookup,b1]
 h! l2:([(y,d),(x,c)]:List (Str×Addr)).lookup y=some d:=by simp[List.lookup]
 r! QR (cl:=[(y,d),(x,c)]) (Nc:=[x,y]) (ci:=[i,j]) hc hi hg hl hf he hclos hkind hcell hnames (.cons hN (.inl hk) (by rw[hcl,l1]) (.cons hN2 (.inl hk2) (by rw[abF,l2]) .nil)) lg (λz e q=>?_) (λz q=>?_) (λz hz=>?_) hs
 ·by_cases w:z=y
  ·subst w;rw[l2]at q;c! q;~abF
  ·by_cases w2:z=x
   ·subst w2;rw[l1]at q;c! q;~hcl
   ·h! e1:(z==y)=false:=by simpa using w
    h! e2:(z==x)=false:=by simpa using w2
    simp[List.lookup,e1,e2]at q
 ·rw[hrl]at q
  h!:z=x\/z=y:=q.elim (λq=>hnm _ (PySem.mem_of_lookup q) (.inl rfl)) λq=>hnm _ (PySem.mem_of_lookup q) (.inr rfl);rcases this with rfl|rfl;·~\(c,l1)
  ·~\(d,l2)
 ·rw[hrl];~nU z hz
end
section
variable{X:Cx}{E:XK}
D! yR:List D->Option (List PySem.Str)
 |[]=>some []
 |.str x::r=>(yR r).map (x:: ·)
 |_=>none
D! Lp:D->R!
 |.str sep,[.lst ds]=>(match yR ds with
  |some xs=>if JoinOk sep xs=true then .ok (.str (Txt.join sep xs))else .bad
  |none=>.bad)
 |_,_=>.bad
T! afw{K:W.Frag}{al:Addr->Prop}{H:Hp}:∀{vs:List V} {ds:List D} {xs:List PySem.Str},bz K al H vs ds->yR ds=some xs->vs=xs.map V.str
 |_,_,_,.nil,e=>by c! e;rfl
 |_,_,_,.cons r q,e=>by
  cases r with
  |str x=>
   o!⟨ys,e1,rfl⟩:=Option.map_eq_some_iff.mp (show(yR _).map (x:: ·)=some _ from e);rw[afw q e1];rfl
  |_=>c! e
T! agf:∀{xs:List PySem.Str} {us:List Value},Vals (xs.map V.str) us->∃l:List (PySem.Str×Tok),us=strValues l/\l.map (·.1)=xs
 |[],_,.nil=>\([],rfl,rfl)
 |x::xs,_,.cons r q=>by
  o!⟨t,rfl⟩:=r;o!⟨l,rfl,e⟩:=agf q;~\((x,t)::l,rfl,by simp[e])
T! alG:xx X "str.join" (λx xs H Q=>∃sep ys p,x=.str sep/\xs=[.ref p]/\jy X.K H p (ys.map V.str)/\JoinOk sep ys=true/\Q (.str (Txt.join sep ys)) H):=by
 intro pins s σ H x xs v us Q I rx rs h;o!⟨sep,ys,p,rfl,rfl,hq,ok,q⟩:=h;o!⟨t,rfl⟩:=rx;o!⟨u,rfl,ru⟩:=vals1 rs;c! ru;o!⟨its,rv,pl,_⟩:=I.list hq;o!⟨l,rfl,e⟩:=agf rv;~SC.join pl.isList e ok λt' k=>\(.str _,H,I.tok _,\(_,rfl),q)
T! alH:Dp X E "str" "str.join" Lp:=by
 r!\(_,alG,λal H x xs d ds Q fr rx rs h=>?_);u! Lp at h;split at h
 ·c! rx
  o!⟨v,rfl,q⟩:=bz.one rs;split at h
  ·rename_i ys e
   split at h
   ·rename_i ok
    o!⟨a,vs,rfl,h1,h2⟩:=q.yp;h! ev:=afw h2 e;subst ev;~\(_,ys,a,rfl,rfl,h1,ok,h H (.refl H) _ (.str _))
   ·~h.elim
  ·~h.elim
 ·~h.elim
end
end P2
namespace P2
open PySem L2 PySem.Spec
open PyProof.Rows hiding St
section
variable{X:Cx}{E:XK}{a b:Expr}{fa fb:Ev->R D}{pos:Pos}
end
end P2
namespace P2
open PySem L2 PySem.Spec
open PyProof.Rows hiding St
section
variable{X:Cx}{E:XK}
D! alB:R!
 |[.int i,.int j]=>.ok (.int (if j<i then j else i))
 |_=>.bad
end
end P2
namespace TM
open PySem PySem.NumText PySem.StrLaws Builtin Builtin.Str
D! az(x:Str):List Nat:=x.cps.toList
T! ext{x y:Str}(h:az x=az y):x=y:=by
 o!⟨x⟩:=x;o!⟨y⟩:=y;h!:x=y:=Array.toList_inj.mp h;rw[this]
T! gD(x y:Str):az (x++y)=az x++az y:=by
 show(x.cps++y.cps).toList=x.cps.toList++y.cps.toList;simp
T! jQ(x:Str):x.length=(az x).length:=by simp[Str.length,az]
D! num(m:Nat):List Nat:=(Nat.toDigits 10 m).map Char.toNat
T! Qs(m:Nat):az (Str.ofString (toString ((m:Nat):Int)))=num m:=PySem.W.KIN.signs_num m
T! Mp(m:Nat):digitsVal (num m)=m:=PySem.W.KIN.val_back m
T! aiP{c:Char}(h:c.isDigit=true):48<=c.toNat/\c.toNat<=57:=by
 u! Char.isDigit at h;S![Bool.and_eq_true,decide_eq_true_eq,ge_iff_le]at h;o!⟨h1,h2⟩:=h;h! a:(48:UInt32).toNat<=c.val.toNat:=UInt32.le_iff_toNat_le.mp h1;h! b:c.val.toNat<=(57:UInt32).toNat:=UInt32.le_iff_toNat_le.mp h2;~\(a,b)
T! GR(m:Nat):AllDigits (num m):=by
 intro c hc;o!⟨ch,h,rfl⟩:=List.mem_map.mp hc;~aiP (Nat.isDigit_of_mem_toDigits d? d? h)
T! GX(m:Nat):num m≠[]:=by
 intro h;h!:=Mp m;rw[h]at this;h! e:m=0:=this.symm;subst e;~absurd h d?
D! Canon(cs:List Nat):Prop:=AllDigits cs/\cs≠[]/\(cs=[48]\/∃c r,cs=c::r/\c≠48)
T! al6(m:Nat):Canon (num m):=by
 r!\(GR m,GX m,?_);h! hd:=GR m;cases q:num m with
 |nil=>~absurd q (GX m)
 |cons c r=>
  by_cases hc:c=48
  ·left
   subst hc;cases r with
   |nil=>rfl
   |cons d r=>
    exfalso;h! e:=toDigits_all (num m) hd;rw[Mp,q,List.dropWhile_cons,if_pos (by rfl)]at e;h! l1:(num m).length=r.length+2:=by rw[q];rfl
    h! l2:(List.dropWhile (λx=>x==48) (d::r)).length<=r.length+1:=List.Sublist.length_le (List.dropWhile_sublist _);u! num at l1;rw[e,List.length_map]at l1;cases z:List.dropWhile (λx=>x==48) (d::r)with
    |nil=>rw[z]at l1;simp at l1
    |cons a b=>rw[z]at l1 l2;S![List.length_map,List.length_cons]at l1 l2;om
  ·right;~\(c,r,rfl,hc)
T! Tj{m:Nat}(h:m<10):num m=[48+m]:=by
 h!:∀m:Nat,m<10->num m=[48+m]:=by decide
 ~this m h
T! al8{m:Nat}(h:10<=m):num m=num (m/10)++[48+m%10]:=by
 h! hm:m%10<10:=Nat.mod_lt m d?;h! t:Nat.toDigits 10 (m/10)++Nat.toDigits 10 (m%10)=Nat.toDigits 10 (10*(m/10)+m%10):=Nat.toDigits_append_toDigits d? o? hm;rw[Nat.div_add_mod]at t;rw[<-Tj hm];u! num;rw[<-t,List.map_append]
T! yu{k:Nat}:∀{m:Nat},m<10^(k+1)->(num m).length<=k+1:=by
 induction k with
 |zero=>intro m h;rw[Tj o?];simp
 |succ k ih=>
  intro m h;by_cases hm:m<10;·rw[Tj hm];simp
  ·rw[al8 o?,List.length_append]
   h!:m/10<10^(k+1):=by rw[Nat.pow_succ]at h;om
   h!:=ih this;S![List.length_singleton];om
T! arL:∀(cs:List Nat),AllDigits cs->digitsVal cs<10^cs.length:=by
 intro cs;induction h:cs.length generalizing cs with
 |zero=>intro _;rw[List.length_eq_zero_iff.mp h];decide
 |succ n ih=>
  intro hd;h! hne:cs≠[]:=by intro e;rw[e]at h;simp at h
  h! e:=List.dropLast_concat_getLast hne;generalize cs.dropLast=ini at e;generalize cs.getLast hne=c at e;subst e;rw[digitsVal_snoc];h! h1:=ih ini (by rw[List.length_append]at h;simpa using h) (λd Gg=>hd d (List.mem_append_left _ Gg));h! h2:=hd c (List.mem_append_right _ (by simp));rw[Nat.pow_succ];om
D! two(n:Nat):List Nat:=[48+n/10,48+n%10]
T! intText_of{x:Str}(h:AllDigits (az x))(h1:az x≠[])(h2:x.length<=640):intText? x=some ((digitsVal (az x):Nat):Int):=intText_digits h h1 o?
D! sx(n d:Nat):Option Int->Nat
 |none=>d
 |some v=>if v<0 then(v+(n:Int)).toNat else min v.toNat n
T! abP(l u:Option Int)(n:Nat):strSliceIndices l u 1 n=strSliceIndices (some ((sx n 0 l:Nat):Int)) (some ((sx n n u:Nat):Int)) 1 n:=by
 h! cl:∀(o:Option Int) (d:Nat),d<=n->(match o with|none=>(d:Int)|some i=>max 0 (min (if i<0 then i+(n:Int)else i) n))=((sx n d o:Nat):Int):=by
  intro o d hd;cases o with
  |none=>rfl
  |some i=>
   show max 0 (min (if i<0 then i+(n:Int)else i) n)=(((if i<0 then(i+(n:Int)).toNat else min i.toNat n):Nat):Int);by_cases h:i<0;·S![h,if_true];om
   ·S![h,if_false];om
 h! h1:=cl l 0 (Nat.zero_le _);h! h2:=cl u n n!;h! s1:((sx n 0 l:Nat):Int)<=n:=by rw[<-h1];c! l<;>simp<;>om
 h! s2:((sx n n u:Nat):Int)<=n:=by rw[<-h2];c! u<;>simp<;>om
 u! strSliceIndices;S![show(1:Int)>0 by decide,if_true];h! a1:¬((sx n 0 l:Nat):Int)<0:=by om
 h! a2:¬((sx n n u:Nat):Int)<0:=by om
 S![a1,a2,if_false];h! e1:max 0 (min ((sx n 0 l:Nat):Int) n)=((sx n 0 l:Nat):Int):=by om
 h! e2:max 0 (min ((sx n n u:Nat):Int) n)=((sx n n u:Nat):Int):=by om
 rw[e1,e2];h! b1:(match l with|none=>(0:Int)|some i=>max 0 (min (if i<0 then i+(n:Int)else i) n))=((sx n 0 l:Nat):Int):=by
  h!:=h1;c! l<;>simpa using this
 h! b2:(match u with|none=>(n:Int)|some i=>max 0 (min (if i<0 then i+(n:Int)else i) n))=((sx n n u:Nat):Int):=by
  h!:=h2;c! u<;>simpa using this
 rw[<-b1,<-b2];c! l<;>c! u<;>rfl
T! XF(n d:Nat)(h:d<=n)(o:Option Int):sx n d o<=n:=by
 cases o with
 |none=>~h
 |some i=>show(if i<0 then(i+(n:Int)).toNat else min i.toNat n)<=n;split<;>om
T! JF(x:Str)(l u:Option Int):az (Txt.slice x l u)=((az x).drop (sx (az x).length 0 l)).take (sx (az x).length (az x).length u - sx (az x).length 0 l):=by
 h! hn:x.length=(az x).length:=jQ x;h! e:Txt.slice x l u=sliceText x (some ((sx x.length 0 l:Nat):Int)) (some ((sx x.length x.length u:Nat):Int)):=by
  u! Txt.slice sliceText;rw[<-abP]
 rw[<-hn];by_cases h:sx x.length 0 l<=sx x.length x.length u;·rw[e,sliceText_nat x h (XF _ _ n! _)];rfl
 ·h! h0:sx x.length x.length u - sx x.length 0 l=0:=by om
  rw[h0,List.take_zero];u! Txt.slice;h! z:strSliceIndices l u 1 x.length=[]:=by
   rw[abP];h! s1:=XF x.length 0 (Nat.zero_le _) l;h! s2:=XF x.length x.length n! u;u! strSliceIndices;S![show(1:Int)>0 by decide,if_true];h! a1:¬((sx x.length 0 l:Nat):Int)<0:=by om
   h! a2:¬((sx x.length x.length u:Nat):Int)<0:=by om
   S![a1,a2,if_false];h! e1:max 0 (min ((sx x.length 0 l:Nat):Int) x.length)=((sx x.length 0 l:Nat):Int):=by om
   h! e2:max 0 (min ((sx x.length x.length u:Nat):Int) x.length)=((sx x.length x.length u:Nat):Int):=by om
   rw[e1,e2];u! sliceRange;S![show(1:Int)>0 by decide,if_true];split;·om
   ·simp
  rw[z];by_cases hx:x.length=0
  ·S![List.length_nil,hx]
   h! hc:az x=[]:=List.length_eq_zero_iff.mp (by rw[<-jQ];~hx);simpa [az]using hc
  ·h!:¬((1:Int)==1&&([]:List Nat).length==x.length)=true:=by simp;om
   rw[if_neg this];rfl
T! Ax(x:Str)(c:Nat):Txt.contains x \(#[c])=decide (c∈az x):=found_one x c
T! S5{l:List Nat}{f:Nat->Bool}(h1:∀c<128,decide (c∈l)=f c)(h2:∀x∈l,x<128)(h3:∀c,128<=c->f c=false)(c:Nat):decide (c∈l)=f c:=by
 by_cases h:c<128;·~h1 c h
 ·rw[h3 c o?];~decide_eq_false λz=>h (h2 c z)
T! afs(x:Str):Txt.startswith x (Str.ofString "0")=decide ((az x).head?=some 48):=by
 o!⟨⟨l⟩⟩:=x;u! Txt.startswith subAt;cases l with
 |nil=>rfl
 |cons c r=>
  h! h1:(Str.ofString "0").length=1:=by decide
  h! h2:(Str.ofString "0").cps=#[48]:=by decide
  rw[h1,h2];show(decide (0+1<=(c::r).length)&&((c::r).toArray.extract 0 (0+1)==#[48]))=_;h!:((c::r).toArray.extract 0 (0+1))=#[c]:=by simp
  rw[this,Bool.eq_iff_iff];simp[az]
end TM
namespace P2
open PySem L2
T! zP{a:D->Ev->Option Ev}{c:Ev->R Bool}{e:Ev->R D}{kE:Ev}(dW:D->Ev)(h:D->D):∀(ds:List D),(∀d∈ds,a d kE=some (dW d)/\c (dW d)=.ok true/\e (dW d)=.ok (h d))->jA a c e kE ds=some (ds.map h)
 |[],_=>rfl
 |d::r,H=>by
  o!⟨h1,h2,h3⟩:=H d (List.mem_cons_self ..);u! jA;rw[h1];S![Option.bind_some,h2,h3,G4,if_true];rw[zP dW h r λx hx=>H x (List.mem_cons_of_mem _ hx)];rfl
T! Jx{α:Type}(f:α->Bool):∀l:List α,mR (l.map λx=>.bl (f x))=some (l.map f)
 |[]=>rfl
 |x::l=>by
  show(mR (l.map λx=>.bl (f x))).map (f x:: ·)=_;rw[Jx f l];rfl
T! size_of{n:Nat}(h:n<=1000000):n<=sizeLine:=Nat.le_trans h d?
T! bits_le{i:Int}{k:Nat}(h:i.natAbs<2^k):bits i<=k:=intBits_le_iff.mpr h
T! log2_lt{i:Int}{k:Nat}(hk:0<k)(h:i.natAbs<2^k):i.natAbs.log2<k:=by
 by_cases z:i.natAbs=0;·rw[z];~hk
 ·~(Nat.log2_lt z).mpr h
section
variable{α β:Type}{a:α}{c:Addr}{ns:List Str}{es:List D}{k:α->RT}{h:α->R β}{ρ:Ev}{g u:Ev->RT}{f fa fb:Ev->R D}{fc fd:Ev->R Bool}{fs:Ev->R (List D)}{i j:Int}{x y:Str}{b b2:Bool}{ds QT:List D}{d:D}{n m:Nat}{gd gd2:D->D->R D}{g1:D->R D}{gl:R!}{gt:D->R!}
variable{t:String}{g3:D->Option Int->Option Int->R D}{fl fu:Ev->R (Option Int)}{cs:List Nat}{ga:D->Ev->Option Ev}{lo hi:Option Int}{fj:Str->Ev->R D}
T! aV:(R.ok a).bind h=h a:=rfl
T! M3:(R.ex c ns es:R α).bind h=.ex c ns es:=rfl
T! adG:(R.bad:R α).bind h=.bad:=rfl
T! uJ:toS (R.ok a) k=k a:=rfl
T! aer:toS (R.ex c ns es:R α) k=.ex c ns es:=rfl
T! aeq:toS (R.bad:R α) k=.bad:=rfl
T! Vq:yM (.nx ρ) g=g ρ:=rfl
T! Nh:yM (.rt d) g=.rt d:=rfl
T! aee:yM (.ex c ns es) g=.ex c ns es:=rfl
T! aed:yM .bad g=.bad:=rfl
T! Hq:turnT (.nx ρ) g=g ρ:=rfl
T! aet:turnT (.ct ρ) g=g ρ:=rfl
T! aeu:turnT (.bk ρ) g=.nx ρ:=rfl
T! aev:turnT (.rt d) g=.rt d:=rfl
T! aes:turnT .bad g=.bad:=rfl
T! aew:turnT (.ex c ns es) g=.ex c ns es:=rfl
T! BP:aL (.rt d)=.ok d:=rfl
T! adL:aL (.nx ρ)=.ok .non:=rfl
T! adM:aL (.ex c ns es)=.ex c ns es:=rfl
T! ad7:alR (R.ok a)=.ok a:=rfl
T! ad8:G4 (R.ok a)=some a:=rfl
T! Vp:GZ (some a)=.ok a:=rfl
T! aec:aZ g u ρ=yM (g ρ) u:=rfl
T! aeb:dj ρ=.nx ρ:=rfl
T! Ho:bU f ρ=toS (f ρ) .rt:=rfl
T! aea:apr f ρ=toS (f ρ) λ_=>.nx ρ:=rfl
T! yG:bZ n f ρ=toS (f ρ) λd=>if n<ρ.length then .nx (ρ.set n (.sh d))else .bad:=rfl
T! BW:c7 fc g u ρ=toS (fc ρ) λk=>if k=true then g ρ else u ρ:=rfl
T! iY:dC d ρ=.ok d:=rfl
T! Hj:d1 g1 f ρ=(f ρ).bind g1:=rfl
T! ie:d2 gd fa fb ρ=(fa ρ).bind λx=>(fb ρ).bind λy=>gd x y:=rfl
T! qN:b1 P2.tB f ρ=(f ρ).bind P2.tB:=rfl
T! Hg:b1 tT f ρ=(f ρ).bind tT:=rfl
T! Va:qm fc fd ρ=(fc ρ).bind λc=>if c=true then fd ρ else .ok false:=rfl
T! MT:kY fc fd ρ=(fc ρ).bind λc=>if c=true then .ok true else fd ρ:=rfl
T! Hi:ji fc ρ=(fc ρ).bind λc=>.ok (!c):=rfl
T! adH:vQ fa fb ρ=((fa ρ).bind P2.tB).bind λc=>if c=true then fb ρ else .ok (.bl false):=rfl
T! Hk:Ed fa fb ρ=((fa ρ).bind P2.tB).bind λc=>if c=true then .ok (.bl true)else fb ρ:=rfl
T! M5:vR fa ρ=((fa ρ).bind P2.tB).bind λc=>.ok (.bl (!c)):=rfl
T! Vb:nJ fc fa fb ρ=(fc ρ).bind λk=>if k=true then fa ρ else fb ρ:=rfl
T! lu:dA gl fs ρ=(fs ρ).bind gl:=rfl
T! ju:aB ρ=.ok []:=rfl
T! fL:ak f fs ρ=(f ρ).bind λx=>(fs ρ).bind λxs=>.ok (x::xs):=rfl
T! Hf:jh fs ρ=(fs ρ).bind λds=>.ok (.lst ds):=rfl
T! Vc:gM t gt f fs ρ=(f ρ).bind λx=>if Aw t x=true then(fs ρ).bind λxs=>gt x xs else .bad:=rfl
T! BL:iG g3 f fl fu ρ=(f ρ).bind λx=>(fl ρ).bind λi=>(fu ρ).bind λj=>g3 x i j:=rfl
T! M4:kZ fs n cs ga fc f ρ=(fs ρ).bind λds=>if ds.length<=sizeLine then GZ (jA ga fc f (j6 n cs ρ) ds)else .bad:=rfl
T! Hn:Hy fs ga g ρ=toS (fs ρ) λds=>oW ga g ds ρ:=rfl
T! Vf:oW ga g (d::ds) ρ=toO (ga d ρ) λdW=>turnT (g dW) (oW ga g ds):=rfl
T! aep:toO (some a) k=k a:=rfl
T! adO:gV n d ρ=if n<ρ.length then some (ρ.set n (.sh d))else none:=rfl
T! wH:P2.tB (.bl b)=.ok b:=rfl
T! Vt:tT (.bl b)=.ok b:=rfl
T! ael:tT (.int i)=.ok (i !=0):=rfl
T! aen:tT .non=.ok false:=rfl
T! aem:tT (.lst ds)=.ok (!ds.isEmpty):=rfl
T! aeo:tT (.tup ds)=.ok (!ds.isEmpty):=rfl
T! MN:aP (.int i) (.int j)=.ok (.int (i+j)):=rfl
T! aoI:aP (.str x) (.str y)=if x.length+y.length<=sizeLine then .ok (.str (x++y))else .bad:=rfl
T! aoH:aP (.lst ds) (.lst QT)=if ds.length+QT.length<=sizeLine then .ok (.lst (ds++QT))else .bad:=rfl
T! aek:mG (.int i) (.int j)=.ok (.int (i - j)):=rfl
T! adK:fW (.int i) (.int j)=if G3 i j=true then .ok (.int (i.fdiv j))else .bad:=rfl
T! aoS:eZ (.int i) (.int j)=if decide (j≠0)=true then .ok (.int (i.fmod j))else .bad:=rfl
T! Ng:P2.nZ (.int i) (.int j)=.ok (.bl (decide (i<j))):=rfl
T! ad3:leD (.int i) (.int j)=.ok (.bl (decide (i<=j))):=rfl
T! Hm:eG (.int i) (.int j)=.ok (.bl (decide (j<i))):=rfl
T! adP:Kg (.int i) (.int j)=.ok (.bl (decide (j<=i))):=rfl
T! ad6:Bo (.int i)=.ok (.int (-i)):=rfl
T! adJ:cX (.int i) (.int j)=.ok (.bl (decide (i=j))):=rfl
T! M6:cX (.str x) (.str y)=.ok (.bl (decide (x=y))):=rfl
T! adI:cX (.bl b) (.bl b2)=.ok (.bl (decide (b=b2))):=rfl
T! ad5:fY (.int i) (.int j)=.ok (.bl (!decide (i=j))):=rfl
T! Vo:fY (.str x) (.str y)=.ok (.bl (!decide (x=y))):=rfl
T! Vh:mX (.str x) (.str y)=.ok (.bl (Txt.contains y x)):=rfl
T! Vi:aO (.lst ds) (.int i)=match L2.bN ds i with|some d=>.ok d|none=>.bad:=rfl
T! M8:aO (.tup ds) (.int i)=match L2.bN ds i with|some d=>.ok d|none=>.bad:=rfl
T! ad2:aO (.str x) (.int i)=if x.length<=sizeLine then(match L2.bN x.cps.toList i with|some c=>.ok (.str \(#[c]))|none=>.bad)else .bad:=rfl
T! aeh:HH (.lst ds) lo hi=.ok (.lst (cutD ds lo hi)):=rfl
T! aei:HH (.str x) lo hi=if x.length<=sizeLine then .ok (.str (Txt.slice x lo hi))else .bad:=rfl
T! ad9:pI (.int i)=.ok (some i):=rfl
T! Nf:cj [.str x]=if x.length<=sizeLine then .ok (.int x.length)else .bad:=rfl
T! M9:cj [.lst ds]=.ok (.int ds.length):=rfl
T! Vm:cj [.tup ds]=.ok (.int ds.length):=rfl
T! U8:xE [.int i]=.ok (.int (if i<0 then -i else i)):=rfl
T! ad4:n6 [.int i,.int j]=.ok (.int (if j>i then j else i)):=rfl
T! aoZ:qR [.int i]=if i.natAbs.log2<1920 then .ok (.str (toString i))else .bad:=rfl
T! adQ:intD [.str x]=match PySem.intText? x with|some n=>if x.length<=640 then .ok (.int n)else .bad|none=>.bad:=rfl
T! U9:tX [.lst ds]=match mR ds with|some bs=>.ok (.bl (bs.all id))|none=>.bad:=rfl
T! adD:ahH [.lst ds]=match mR ds with|some bs=>.ok (.bl (bs.any id))|none=>.bad:=rfl
T! Vr:Cr (.str x) [.str y]=.ok (.bl (Txt.startswith x y)):=rfl
T! aeD:ar6 (.str x) [.int i]=if PadOk i=true then .ok (.str (Txt.zfill x i))else .bad:=rfl
T! Vg:Aw "str" (.str x)=true:=by rfl
T! aoR:bK ds=if ds.length<=sizeLine then .ok (.tup ds)else .bad:=rfl
T! aoM:jM ds=if ds.length<=sizeLine then .ok ds else .bad:=rfl
T! MP:jH (.lst ds)=.ok ds:=rfl
T! adF:jH (.tup ds)=.ok ds:=rfl
T! adE:jH (.str x)=.ok (signs x):=rfl
T! Ve:du (.str x)=if x.length<=sizeLine then .ok (.str x)else .bad:=rfl
T! aoN:du (.int i)=if i.natAbs.log2<1920 then .ok (.str (toString i))else .bad:=rfl
T! Vl:iV x ρ=if x.length<=sizeLine then .ok (.str x)else .bad:=rfl
T! Vj:b8 f fj x ρ=(f ρ).bind λz=>match z with|.str y=>if(x++y).length<=sizeLine then fj (x++y) ρ else .bad|_=>.bad:=rfl
T! ou{r:Ev}:dV 0 (.sh d::r)=.ok d:=rfl
T! qO{s0:Sl}{r:Ev}:dV 1 (s0::.sh d::r)=.ok d:=rfl
T! uK{s0 s1:Sl}{r:Ev}:dV 2 (s0::s1::.sh d::r)=.ok d:=rfl
T! BZ{s0 s1 s2:Sl}{r:Ev}:dV 3 (s0::s1::s2::.sh d::r)=.ok d:=rfl
T! Hr{s0 s1 s2 s3:Sl}{r:Ev}:dV 4 (s0::s1::s2::s3::.sh d::r)=.ok d:=rfl
T! Hs{s0 s1 s2 s3 s4:Sl}{r:Ev}:dV 5 (s0::s1::s2::s3::s4::.sh d::r)=.ok d:=rfl
T! Vu{s0 s1 s2 s3 s4 s5:Sl}{r:Ev}:dV 6 (s0::s1::s2::s3::s4::s5::.sh d::r)=.ok d:=rfl
T! aeB{s0 s1 s2 s3 s4 s5 s6:Sl}{r:Ev}:dV 7 (s0::s1::s2::s3::s4::s5::s6::.sh d::r)=.ok d:=rfl
T! Vv{s0 s1 s2 s3 s4 s5 s6 s7:Sl}{r:Ev}:dV 8 (s0::s1::s2::s3::s4::s5::s6::s7::.sh d::r)=.ok d:=rfl
T! Vw{s0 s1 s2 s3 s4 s5 s6 s7 s8:Sl}{r:Ev}:dV 9 (s0::s1::s2::s3::s4::s5::s6::s7::s8::.sh d::r)=.ok d:=rfl
T! aex{s0 s1 s2 s3 s4 s5 s6 s7 s8 s9:Sl}{r:Ev}:dV 10 (s0::s1::s2::s3::s4::s5::s6::s7::s8::s9::.sh d::r)=.ok d:=rfl
T! aey{s0 s1 s2 s3 s4 s5 s6 s7 s8 s9 yH:Sl}{r:Ev}:dV 11 (s0::s1::s2::s3::s4::s5::s6::s7::s8::s9::yH::.sh d::r)=.ok d:=rfl
T! aez{s0 s1 s2 s3 s4 s5 s6 s7 s8 s9 yH Hx:Sl}{r:Ev}:dV 12 (s0::s1::s2::s3::s4::s5::s6::s7::s8::s9::yH::Hx::.sh d::r)=.ok d:=rfl
T! aeA{s0 s1 s2 s3 s4 s5 s6 s7 s8 s9 yH Hx s12:Sl}{r:Ev}:dV 13 (s0::s1::s2::s3::s4::s5::s6::s7::s8::s9::yH::Hx::s12::.sh d::r)=.ok d:=rfl
T! BV(hj:0<j):eZ (.int i) (.int j)=.ok (.int (i%j)):=by
 rw[aoS,if_pos g!,Int.fmod_eq_emod_of_nonneg _ o?]
T! Hl(hj:0<j)(h2:j<18446744073709551616):fW (.int i) (.int j)=.ok (.int (i/j)):=by
 h! hb:bits j<=64:=bits_le o?;rw[adK,if_pos (by u! G3;S![Bool.and_eq_true,decide_eq_true_eq];om),Int.fdiv_eq_ediv_of_nonneg _ o?]
T! adC{x y:Str}(h1:x.length<=1000)(h2:y.length<=1000):aP (.str x) (.str y)=.ok (.str (x++y)):=by
 rw[aoI,if_pos (Nat.le_trans (Nat.add_le_add h1 h2) d?)]
T! adB{x y:List D}(h1:x.length<=1000)(h2:y.length<=1000):aP (.lst x) (.lst y)=.ok (.lst (x++y)):=by
 rw[aoH,if_pos (Nat.le_trans (Nat.add_le_add h1 h2) d?)]
T! adN{x:List D}(h1:x.length<=1000):jM x=.ok x:=by
 rw[aoM,if_pos (Nat.le_trans h1 d?)]
T! BR{x:List D}(h1:x.length<=1000):bK x=.ok (.tup x):=by
 rw[aoR,if_pos (Nat.le_trans h1 d?)]
end
end P2
namespace P2
open PySem L2 PySem.Spec
open PyProof.Rows hiding St
section
variable{X:Cx}{E:XK}
D! Br(i j:Int):Bool:=acQ i j||Mq i j
D! lr:D->D->R D
 |.int i,.int j=>if Br i j=true then .ok (.int (i*j))else .bad
 |.str x,.int n=>if yw x n=true then .ok (.str (Txt.mul x n))else .bad
 |_,_=>.bad
T! yz:je X E (binaryOp .Mult) lr:=by
 r!\(_,Mu (Mu ant anu) anv,λal H x y dx dy Q fr rx ry h=>?_);u! lr at h;split at h
 ·c! rx;c! ry
  split at h
  ·rename_i z
   u! Br at z;rw[Bool.or_eq_true]at z;rcases z with z|z
   ·u! acQ at z
    S![Bool.and_eq_true,decide_eq_true_eq]at z;~.inl (.inr \(_,_,rfl,rfl,z,h H (.refl H) _ (.int _)))
   ·r! .inl (.inl \(_,_,rfl,rfl,?_,h H (.refl H) _ (.int _)))
    u! Mq at z;S![Bool.or_eq_true,Bool.and_eq_true,decide_eq_true_eq]at z;~z
  ·~h.elim
 ·c! rx;c! ry
  split at h;·rename_i z;~.inr \(_,_,rfl,rfl,mulOk_of z,h H (.refl H) _ (.str _))
  ·~h.elim
 ·~h.elim
end
T! Uq:(10:Nat)^400<2^1500:=by decide+kernel
T! ahV{i:Int}(h:i.natAbs<10^400):bits i<=1500:=bits_le (Nat.lt_trans h Uq)
T! aoU{i j:Int}(h1: -18446744073709551616<j)(h2:j<18446744073709551616):lr (.int i) (.int j)=.ok (.int (i*j)):=by
 show(if Br i j=true then R.ok (D.int (i*j))else .bad)=_;rw[if_pos (by u! Br Mq;S![Bool.or_eq_true,Bool.and_eq_true,decide_eq_true_eq];right;right;~\(h1,h2))]
T! aoT{i j:Int}(h1: -18446744073709551616<i)(h2:i<18446744073709551616):lr (.int i) (.int j)=.ok (.int (i*j)):=by
 show(if Br i j=true then R.ok (D.int (i*j))else .bad)=_;rw[if_pos (by u! Br Mq;S![Bool.or_eq_true,Bool.and_eq_true,decide_eq_true_eq];right;left;~\(h1,h2))]
T! Vn{x:Str}{n:Int}(h:yw x n=true):lr (.str x) (.int n)=.ok (.str (Txt.mul x n)):=by
 show(if yw x n=true then R.ok (D.str (Txt.mul x n))else .bad)=_;rw[if_pos h]
T! M7{i j:Int}(hj:j≠0)(h2:j.natAbs<10^400):fW (.int i) (.int j)=.ok (.int (i.fdiv j)):=by
 h! hb:=ahV h2;rw[adK,if_pos (by u! G3;S![Bool.and_eq_true,decide_eq_true_eq];om)]
T! Vs{i:Int}(h:i.natAbs<10^400):qR [.int i]=.ok (.str (toString i)):=by
 h! p:(2:Nat)^1500<=2^1920:=Nat.pow_le_pow_right d? d?;rw[aoZ,if_pos (log2_lt d? (Nat.lt_of_lt_of_le (Nat.lt_trans h Uq) p))]
T! Vd{i:Int}(h:i.natAbs<10^400):du (.int i)=.ok (.str (toString i)):=by
 h! p:(2:Nat)^1500<=2^1920:=Nat.pow_le_pow_right d? d?;rw[aoN,if_pos (log2_lt d? (Nat.lt_of_lt_of_le (Nat.lt_trans h Uq) p))]
T! adS{q:Addr->Value->Option Bool}{i:Int}:eX q [.int i,.ty "int"]=.ok (.bl true):=rfl
T! adR{q:Addr->Value->Option Bool}{i:Int}:eX q [.int i,.ty "bool"]=.ok (.bl false):=rfl
T! adU{q:Addr->Value->Option Bool}{x:Str}:eX q [.str x,.ty "str"]=.ok (.bl true):=rfl
T! adV{q:Addr->Value->Option Bool}{ds:List D}:eX q [.tup ds,.ty "tuple"]=.ok (.bl true):=rfl
T! adT{q:Addr->Value->Option Bool}{ds:List D}:eX q [.lst ds,.ty "list"]=.ok (.bl true):=rfl
T! aef{ds:List D}{lo hi:Option Int}:ig (.lst ds) lo hi=.ok (.lst (cutD ds lo hi)):=rfl
T! aeg{x:Str}{lo hi:Option Int}:ig (.str x) lo hi=if x.length<=sizeLine then .ok (.str (Txt.slice x lo hi))else .bad:=rfl
T! adW{a b:Bool}:R5 (.bl a) (.bl b)=.ok (.bl (a==b)):=rfl
T! adZ{a b:Bool}:R6 (.bl a) (.bl b)=.ok (.bl (!(a==b))):=rfl
T! adX:R5 .non .non=.ok (.bl true):=rfl
T! ad0:R6 .non .non=.ok (.bl false):=rfl
T! adY{ds:List D}:R5 (.tup ds) .non=.ok (.bl false):=rfl
T! ad1{ds:List D}:R6 (.tup ds) .non=.ok (.bl true):=rfl
T! aeC{c:Ev->R Bool}{b:Ev->RT}{n:Nat}{ρ:Ev}:qX c b (n+1) ρ=toS (c ρ) λk=>if k=true then turnT (b ρ) (qX c b n)else .nx ρ:=rfl
end P2
namespace P2
open PySem L2 PySem.Spec
open PyProof.Rows hiding St
section
variable{X:Cx}{σ:L2.St}{pins:L!}{f l it S:Addr}{dv:Value}{vs:List V}{H0:Hp}{R:Result->Shared->Prop}
end
section
variable{X:Cx}{σ:L2.St}{pins:L!}{f l it S:Addr}{dv:Value}{vs:List V}{H0:Hp}{R:Result->Shared->Prop}
end
section
variable{X:Cx}{E:XK}{k:Nat}{x fn p:Str}{F:R!}{fa fb:Ev->R D}{e de:Expr}{pos p0 p1 p2 p3:Pos}
end
end P2
namespace PySem.F
end PySem.F
namespace P2
open PySem
section
variable{prog:Program}{w:World}{A:Around}{E:B!}{s:Shared}{R:Result->Shared->Prop}
variable{I:Addr}{fp wr:List Addr}{G:Array GenState->Array GenState->Prop}{n:Nat}{P:Nat->Value->Prop}{St:Nat->Shared->Prop}
end
end P2
namespace P2
open PySem L2 PySem.Spec
open PyProof.Rows hiding St
section
variable{X:Cx}{E:XK}{e:Expr}{ta:TE}{f:Ev->R D}{p1 p2 pos BJ:Pos}
end
end P2
namespace P2
open PySem L2 PySem.Spec
open PyProof.Rows hiding St
section
variable{X:Cx}{E:XK}{a b:Expr}{rest:List Expr}{pos:Pos}{ta tb:TE}{fa fb:Ev->R D}
D! aiG(a b:Ev->R D):Ev->R D:=λρ=>(a ρ).bind λx=>(tT x).bind λc=>if c=true then .ok x else b ρ
T! aoL{ρ:Ev}:aiG fa fb ρ=(fa ρ).bind λx=>(tT x).bind λc=>if c=true then .ok x else fb ρ:=rfl
end
end P2
namespace P2
open PySem L2 PySem.Spec PySem.Calls
open PyProof.Rows hiding St
D! BM(mg:G!)(h:Heap):Prop:=∃bm ob,mg "__builtins__"=some (.ref bm)/\bm≠builtinsNs/\h.get? bm=some ob/\ob.cls=.type "module"/\ob.dict=some builtinsNs/\ob.data=.plain
section
variable{X:Cx}{pins:L!}{σ:List (Option V)}{H:Hp}{s:Shared}
end
section
variable{X:Cx}{E:XK}{k:Nat}{p:Str}{fa fb g:Ev->R D}{e de body:Expr}{pos p0 p2 p3 p4:Pos}{x qual:Str}{c P:Addr}{params:Arguments}{scope:Scope}{N:List Str}
end
section
variable{P:Program}{w:World}{K:W.Frag}{mg:G!}{base:Heap}
end
end P2
namespace WP
open PySem L2 P2
structure Ad where
 WeatherError:Addr:=0
 NoFraction:Addr:=0
 NoText:Addr:=0
 Twice:Addr:=0
 TooMany:Addr:=0
 NoRow:Addr:=0
 Tokens:Addr:=0
 Book:Addr:=0
 Sight:Addr:=0
 Desk:Addr:=0
 jm:Addr:=0
 ase:Addr:=0
 asf:Addr:=0
 d9:Addr->Value->Option Bool:=λ_ _=>none
D! Ke(a:Ad):Ev->RT:=(bU (vQ (d2 fY &0 #"") (dA tX (ak (jh (kZ (λρ=>(&0 ρ).bind jH) 1 [] (gV 0) (λ_=>.ok true) (d2 mX &0 #"0123456789"))) aB))))
D! Ka(a:Ad)(Iu:R!):Ev->RT:=(aZ (c7 (kY (b1 tB (d2 eG (dA cj (ak &0 aB)) &1)) (ji (b1 tT (dA Iu (ak &0 aB))))) (bU (dC (.bl false))) dj)
    (bU (Ed (d2 cX &0 #"0") (vR (gM "str" Cr &0 (ak #"0" aB))))))
D! KR(a:Ad)(oM:R!):Ev->RT:=(aZ (c7 (ji (b1 tT (dA oM (ak &0 (ak (dA cj (ak (dA qR (ak &2 aB)) aB)) aB))))) U! dj)
    (aZ (bZ 3 (dA intD (ak &0 aB)))
    (aZ (c7 (kY (b1 tB (d2 nZ &3 &1)) (b1 tB (d2 eG &3 &2))) U! dj)
    (bU &3))))
D! PN(a:Ad):Ev->RT:=(aZ (bZ 2 (d2 eZ &0 &1))
    (aZ (bZ 0 &1)
    (bZ 1 &2)))
D! J3(a:Ad):Ev->RT:=(aZ (qX (b1 tB (d2 fY &1 #0)) (PN a) 10000000000000000000000000000000000000000000000000000000000000000000000000000000000000000000000000000000000000000000000000000000000000000000000000000000000000000000000000000000000000000000000000000000000000000000000000000000000000000000000000000000000000000000000000000000000000000000000000000000000000000000000000000000000000000000000000000000000000000000000000000000000000000000000000000000000000000)
    (bU &0))
D! Kc(a:Ad):Ev->RT:=(bU (vQ (dA (eX a.d9) (ak &0 (ak (dC (.ty "int")) aB))) (vR (dA (eX a.d9) (ak &0 (ak (dC (.ty "bool")) aB))))))
D! J4(a:Ad)(Dd Ip:R!):Ev->RT:=(aZ (c7 (kY (ji (b1 tT (dA Dd (ak &0 aB)))) (kY (ji (b1 tT (dA Dd (ak &1 aB)))) (b1 tB (d2 cX &1 #0)))) (λ_=>.ex a.NoFraction [] []) dj)
    (aZ (bZ 2 (dA Ip (ak (dA xE (ak &0 aB)) (ak (dA xE (ak &1 aB)) aB))))
    (aZ (c7 (b1 tB (d2 nZ &1 #0)) (bZ 2 (d1 Bo &2)) dj)
    (bU (dA bK (ak (d2 fW &0 &2) (ak (d2 fW &1 &2) aB)))))))
D! Et(a:Ad):Ev->RT:=(aZ (bZ 1 (d2 aO &0 #0))
    (aZ (bZ 2 (d2 aO &0 #1))
    (aZ (c7 (b1 tB (d2 cX &2 #1)) (bU (dA qR (ak &1 aB))) dj)
    (bU ((b8 (d1 du &1) (b8 #"/" (b8 (d1 du &2) iV))) Str.empty)))))
D! KN(a:Ad)(oM tM nC:R!):Ev->RT:=(aZ (bZ 1 (gM "str" Cr &0 (ak #"-" aB)))
    (aZ (bZ 2 (nJ (b1 tT &1) (gM "str" uN (iG ig &0 (λρ=>(#1 ρ).bind pI) (λ_=>.ok none)) (ak #"/" aB)) (gM "str" uN &0 (ak #"/" aB))))
    (aZ (c7 (kY (b1 tB (d2 eG (dA cj (ak &2 aB)) #2)) (ji (b1 tT (dA tX (ak (jh (kZ (λρ=>(&2 ρ).bind jH) 1 [] (gV 0) (λ_=>.ok true) (dA oM (ak &0 (ak #60 aB))))) aB))))) U! dj)
    (aZ (bZ 3 (nJ (b1 tT &1) (d1 Bo (dA intD (ak (d2 aO &2 #0) aB))) (dA intD (ak (d2 aO &2 #0) aB))))
    (aZ (bZ 4 (nJ (b1 tB (d2 cX (dA cj (ak &2 aB)) #2)) (dA intD (ak (d2 aO &2 #1) aB)) #1))
    (aZ (c7 (b1 tB (d2 cX &4 #0)) U! dj)
    (aZ (bZ 5 (dA tM (ak &3 (ak &4 aB))))
    (aZ (c7 (b1 tB (d2 fY (dA nC (ak &5 aB)) &0)) U! dj)
    (bU &5)))))))))
D! KQ(a:Ad)(I9:R!):Ev->RT:=(aZ (bZ 1 (dA I9 (ak &0 aB)))
    (aZ (c7 (kY (b1 tB (d2 Kg (dA xE (ak (d2 aO &1 #0) aB)) #1000000000)) (b1 tB (d2 Kg (d2 aO &1 #1) #1000000))) U! dj)
    (bU &1)))
D! Kd(a:Ad):Ev->RT:=(aZ (c7 (kY (ji (b1 tT (dA (eX a.d9) (ak &0 (ak (dC (.ty "str")) aB))))) (kY (b1 tB (d2 cX &0 #"")) (b1 tB (d2 eG (dA cj (ak &0 aB)) #8)))) (bU (dC (.bl false))) dj)
    (bU (vQ (dA tX (ak (jh (kZ (λρ=>(&0 ρ).bind jH) 1 [] (gV 0) (λ_=>.ok true) (d2 mX &0 #"abcdefghijklmnopqrstuvwxyz"))) aB)) (d2 yr &0 (dC (.tup [(.str "mark"),(.str "fill"),(.str "here"),(.str "back"),(.str "on"),(.str "at"),(.str "ago"),(.str "until"),(.str "abs"),(.str "and"),(.str "or"),(.str "not")]))))))
D! KY(a:Ad)(Ir:R!):Ev->RT:=(aZ (c7 (ji (b1 tT (dA Ir (ak &0 aB)))) U! dj)
    (bU &0))
D! Er(a:Ad):Ev->RT:=(bU ((b8 (d1 du &0) (b8 #" " (b8 (d1 du &1) (b8 #" " (b8 (d1 du &2) iV))))) Str.empty))
D! Eu(a:Ad)(nD:R!):Ev->RT:=(aZ (bZ 2 (dA nD (ak &0 aB)))
    (bU (nJ (b1 tB (d2 cT (d2 aO &0 #0) &1)) ((b8 #"(" (b8 (d1 du &2) (b8 #")" iV))) Str.empty) &2)))
D! jO(a:Ad)(De nD qe nC:R!):Ev->RT:=(aZ (bZ 1 (d2 aO &0 #0))
    (aZ (c7 (b1 tB (d2 cT &1 (dA bK (ak #"+" (ak #"-" aB))))) (bU (dA qe (ak (dA nD (ak (d2 aO &0 #1) aB)) (ak &1 (ak (dA De (ak (d2 aO &0 #2) (ak (dA bK (ak #"+" (ak #"-" aB))) aB))) aB))))) dj)
    (aZ (c7 (b1 tB (d2 cX &1 #"times")) (bU (dA qe (ak (dA nC (ak (d2 aO &0 #1) aB)) (ak #"*" (ak (dA De (ak (d2 aO &0 #2) (ak (dA bK (ak #"+" (ak #"-" (ak #"times" aB)))) aB))) aB))))) dj)
    (aZ (c7 (b1 tB (d2 cX &1 #"abs")) (aZ (bZ 2 (dA nD (ak (d2 aO &0 #1) aB)))
    (bU ((b8 #"abs(" (b8 (d1 du &2) (b8 #")" iV))) Str.empty))) dj)
    (aZ (c7 (b1 tB (d2 cX &1 #"num")) (bU (dA nC (ak (d2 aO &0 #1) aB))) dj)
    (aZ (c7 (b1 tB (d2 cX &1 #"here")) (bU &1) dj)
    (aZ (bZ 3 (d2 aO &0 #1))
    (bU ((b8 (d1 du &1) (b8 #" " (b8 (d1 du &3) iV))) Str.empty)))))))))
D! Es(a:Ad)(lX:R!):Ev->RT:=(aZ (bZ 2 (dA lX (ak &0 aB)))
    (bU (nJ (b1 tB (d2 cT (d2 aO &0 #0) &1)) ((b8 #"[" (b8 (d1 du &2) (b8 #"]" iV))) Str.empty) &2)))
D! mW(a:Ad)(wZ lX qe nD:R!):Ev->RT:=(aZ (bZ 1 (d2 aO &0 #0))
    (aZ (c7 (b1 tB (d2 cX &1 #"or")) (bU (dA qe (ak (dA lX (ak (d2 aO &0 #1) aB)) (ak &1 (ak (dA wZ (ak (d2 aO &0 #2) (ak (dA bK (ak #"or" aB)) aB))) aB))))) dj)
    (aZ (c7 (b1 tB (d2 cX &1 #"and")) (bU (dA qe (ak (dA wZ (ak (d2 aO &0 #1) (ak (dA bK (ak #"or" aB)) aB))) (ak &1 (ak (dA wZ (ak (d2 aO &0 #2) (ak (dA bK (ak #"or" (ak #"and" aB))) aB))) aB))))) dj)
    (aZ (c7 (b1 tB (d2 cX &1 #"not")) (bU (d2 aP #"not " (dA wZ (ak (d2 aO &0 #1) (ak (dA bK (ak #"or" (ak #"and" aB))) aB))))) dj)
    (bU (dA qe (ak (dA nD (ak (d2 aO &0 #1) aB)) (ak &1 (ak (dA nD (ak (d2 aO &0 #2) aB)) aB)))))))))
end WP
namespace P2
open PySem PySem.W PyProof.Rows
section
variable{n:Nat}{c:Nat->Nat->Bool}{rk:Nat->Int}
D! KK(rk:Nat->Int)(p:Array Nat)(i:Nat):Int:=rk ((p[i]?).getD 0)
variable(hc:∀i j,i<n->j<n->c i j=decide (rk i<rk j))
include hc
D! cZ(rk:Nat->Int)(p:Array Nat)(m:Nat):Prop:=∀i j,i<=j->j<m->KK rk p i<=KK rk p j
omit hc in
omit hc in
omit hc in
end
end P2
namespace P2
open PySem L2 PySem.Spec PySem.Calls
open PyProof.Rows hiding St
section
variable{X:Cx}{E:XK}{e:Expr}{ta:TE}{f:Ev->R D}{p1 pos:Pos}
end
end P2
namespace P2
open PySem L2 PySem.Spec PySem.Calls PySem.W
open PyProof.Rows hiding St K
section
variable{prog:Program}{w:World}{A:Around}{E:B!}{s:Shared}
end
end P2
namespace P2
open PySem L2 PySem.Spec PySem.Calls PySem.W
open PyProof.Rows hiding St K
inductive zj:List D->List D->Prop
 |nil:zj [] []
 |int (i j:Int) {xs ys:List D}:zj xs ys->zj (.int i::xs) (.int j::ys)
 |str (i j:Str) {xs ys:List D}:zj xs ys->zj (.str i::xs) (.str j::ys)
inductive Pq:D->D->Prop
 |int (i j:Int):Pq (.int i) (.int j)
 |str (i j:Str):Pq (.str i) (.str j)
 |tup {a b:List D} {d e:D}:zj (d::a) (e::b)->Pq (.tup (d::a)) (.tup (e::b))
end P2
namespace P2
open PySem L2 PySem.Spec PySem.Calls PySem.W
open PyProof.Rows hiding St K
D! Ox:D->Value->Prop
 |.int i,.int j _=>i=j
 |.str x,.str y _=>x=y
 |_,_=>False
inductive Iw:List D->List Value->Prop
 |nil:Iw [] []
 |cons {d:D} {v:Value} {ds:List D} {vs:List Value}:Ox d v->Iw ds vs->Iw (d::ds) (v::vs)
D! TupAt(h:Heap)(u:Value)(ds:List D):Prop:=∃a o xs n,u=.ref a/\h.get? a=some o/\o.cls=.type "tuple"/\o.data=.seq xs n/\Iw ds xs.toList
D! ag2(h:Heap)(u:Value):D->Prop
 |.int i=>Ox (.int i) u
 |.str x=>Ox (.str x) u
 |.tup ds=>TupAt h u ds
 |_=>False
section
variable{prog:Program}{w:World}{A:Around}{E:B!}{s:Shared}
end
section
variable{prog:Program}{w:World}{A:Around}{E:B!}{s:Shared}
inductive OJ(h:Heap):List Value->List D->Prop
 |nil:OJ h [] []
 |cons {u:Value} {d:D} {us:List Value} {ds:List D}:ag2 h u d->OJ h us ds->OJ h (u::us) (d::ds)
T! ajq{α:Type}(l:List α)(x:α):(List.range l.length).map (λi=>l.getD i x)=l:=by
 apply List.ext_getElem;·simp
 ·intro i h1 h2
  simp[List.getElem_map,h2]
end
end P2
namespace P2
open PySem L2 PySem.Spec PySem.Calls PySem.W
open PyProof.Rows hiding St K
section
variable{X:Cx}{E:XK}{e:Expr}{ta:TE}{f:Ev->R D}{p1 pos:Pos}
end
end P2
namespace P2
open PySem L2
inductive Z where
 |d(x:D)|loc(n:Nat)|tk(ks:List Key)
inductive Cell where
 |li(zs:List Z)|ob(C:Addr)(fs:List (Str×Z))|dk(kvs:List (Key×Z))|dt(kvs:List (List Key×Z))|no|mk
A! aC:=List Cell
A! Lo:=Nat->Option Addr
A! aJ:=List (Option Z)
D! gB(K:W.Frag)(al:Addr->Prop)(lo:Lo)(H:Hp)(v:V):Z->Prop
 |.d x=>Rep K al H v x
 |.loc n=>∃a,lo n=some a/\v=.ref a
 |.tk ks=>∃a,al a/\H a=some (.tup (ks.map kV))/\v=.ref a
inductive dZ(K:W.Frag)(al:Addr->Prop)(lo:Lo)(H:Hp):List V->List Z->Prop
 |nil:dZ K al lo H [] []
 |cons {v:V} {z:Z} {vs:List V} {zs:List Z}:gB K al lo H v z->dZ K al lo H vs zs->dZ K al lo H (v::vs) (z::zs)
inductive dO{κ:Type}(K:W.Frag)(al:Addr->Prop)(lo:Lo)(H:Hp):List (κ×V)->List (κ×Z)->Prop
 |nil:dO K al lo H [] []
 |cons {k:κ} {v:V} {z:Z} {vs:List (κ×V)} {zs:List (κ×Z)}:gB K al lo H v z->dO K al lo H vs zs->dO K al lo H ((k,v)::vs) ((k,z)::zs)
D! jX(K:W.Frag)(al:Addr->Prop)(lo:Lo)(H:Hp)(a:Addr):Cell->Prop
 |.li zs=>∃vs,H a=some (.lst vs)/\dZ K al lo H vs zs
 |.ob C fs=>∃dx us,H a=some (.ins C dx us)/\dO K al lo H us fs
 |.dk kvs=>∃us,H a=some (.dK us)/\dO K al lo H us kvs
 |.dt kvs=>∃us,H a=some (.dT us)/\dO K al lo H us kvs
 |.no=>False
 |.mk=>False
D! ZV(o:HO):Prop:=(∃ys,o=.tup ys)\/∃ps,o=.iZ ps
structure vH(K:W.Frag)(al:Addr->Prop)(lo:Lo)(H:Hp)(S:aC):Prop where
 at':∀n a,lo n=some a->∃c,S[n]?=some c/\jX K al lo H a c
 has:∀n c,S[n]?=some c->c≠.no->c≠.mk->∃a,lo n=some a
 na:∀n a,lo n=some a->¬al a
 inj:∀m n a,lo m=some a->lo n=some a->m=n
 tl:S[0]?=some .mk->∀b o,H b=some o->ZV o->al b
structure Z0 where
 H:Hp
 al:Addr->Prop
 lo:Lo
 n:Nat
structure EZ(K:W.Frag)(B:Z0)(al:Addr->Prop)(lo:Lo)(H:Hp)(S:aC):Prop where
 fr:∀b o,NT o->B.H b=some o->(∀n,B.lo n≠some b)->H b=some o
 hf:∀b,H b=none->B.H b=none
 tt:jZ K H
 fresh:∀a,H a=none->al a
 st:vH K al lo H S
 lx:∀n a,B.lo n=some a->lo n=some a
 nw:∀n a,lo n=some a->B.lo n=some a\/(B.H a=none/\B.n<=n)
 bd:∀n a,B.lo n=some a->n<B.n
 sz:B.n<=S.length
 xt:Xt B.al B.H al H
 sb:∀a,al a->B.al a\/B.H a=none
structure RZ(K:W.Frag)(B:Z0)(al:Addr->Prop)(lo:Lo)(H:Hp)(σ:St)(ρ:aJ)(S:aC):Prop extends EZ K B al lo H S where
 len:ρ.length=σ.length
 vr:∀(i:Nat) (z:Z),ρ[i]?=some (some z)->∃v,σ[i]?=some (some v)/\gB K al lo H v z
D! Lx(lo bh:Lo):Prop:=∀n a,lo n=some a->bh n=some a
T! Lx.refl{lo:Lo}:Lx lo lo:=λ_ _ h=>h
T! Lx.trans{lo lo1 eN:Lo}(x:Lx lo lo1)(y:Lx lo1 eN):Lx lo eN:=λn a h=>y n a (x n a h)
section
variable{K:W.Frag}{al aG:Addr->Prop}{lo bh:Lo}{H H':Hp}
T! gB.mv(x:Xt al H aG H')(y:Lx lo bh){v:V}{z:Z}(r:gB K al lo H v z):gB K aG bh H' v z:=by
 cases z with
 |d d=>~Rep.mv x r
 |loc n=>o!⟨a,h1,h2⟩:=r;~\(a,y n a h1,h2)
 |tk ks=>o!⟨a,h1,h2,h3⟩:=r;o!⟨g1,g2⟩:=x a (.tup (ks.map kV)) (λ_ h=>nomatch h) h1 h2;~\(a,g1,g2,h3)
T! dZ.mv(x:Xt al H aG H')(y:Lx lo bh){vs:List V}{zs:List Z}(r:dZ K al lo H vs zs):dZ K aG bh H' vs zs:=by
 induction r with
 |nil=>~.nil
 |cons a _ ih=>~.cons (a.mv x y) ih
T! dO.mv{κ:Type}(x:Xt al H aG H')(y:Lx lo bh){vs:List (κ×V)}{zs:List (κ×Z)}(r:dO K al lo H vs zs):dO K aG bh H' vs zs:=by
 induction r with
 |nil=>~.nil
 |cons a _ ih=>~.cons (a.mv x y) ih
T! dZ.length{vs:List V}{zs:List Z}(r:dZ K al lo H vs zs):vs.length=zs.length:=by
 induction r with
 |nil=>rfl
 |cons _ _ ih=>rw[List.length_cons,List.length_cons,ih]
T! dZ.append{vs ws:List V}{zs ys:List Z}(r:dZ K al lo H vs zs)(q:dZ K al lo H ws ys):dZ K al lo H (vs++ws) (zs++ys):=by
 induction r with
 |nil=>~q
 |cons a _ ih=>~.cons a ih
T! dZ.get{vs:List V}{zs:List Z}(r:dZ K al lo H vs zs){i:Nat}{z:Z}(e:zs[i]?=some z):∃v,vs[i]?=some v/\gB K al lo H v z:=by
 induction r generalizing i with
 |nil=>simp at e
 |cons a _ ih=>
  cases i with
  |zero=>simp at e;subst e;~\(_,rfl,a)
  |succ i=>simpa using ih (by simpa using e)
T! dZ.ofD{vs:List V}{ds:List D}(r:bz K al H vs ds):dZ K al lo H vs (ds.map .d):=by
 induction ds generalizing vs with
 |nil=>c! r;~.nil
 |cons d ds ih=>cases r with|cons a b=>~.cons a (ih b)
T! dZ.toD{vs:List V}{ds:List D}(r:dZ K al lo H vs (ds.map .d)):bz K al H vs ds:=by
 induction ds generalizing vs with
 |nil=>c! r;~.nil
 |cons d ds ih=>cases r with|cons a b=>~.cons a (ih b)
T! jX.mv(x:Xt al H aG H')(y:Lx lo bh){a:Addr}{c:Cell}(e:∀o,NT o->H a=some o->H' a=some o)(r:jX K al lo H a c):jX K aG bh H' a c:=by
 cases c with
 |li zs=>o!⟨vs,h1,h2⟩:=r;~\(vs,e _ uD h1,h2.mv x y)
 |ob C fs=>o!⟨dx,us,h1,h2⟩:=r;~\(dx,us,e _ (λ_ h=>nomatch h) h1,h2.mv x y)
 |dk kvs=>o!⟨us,h1,h2⟩:=r;~\(us,e _ (λ_ h=>nomatch h) h1,h2.mv x y)
 |dt kvs=>o!⟨us,h1,h2⟩:=r;~\(us,e _ (λ_ h=>nomatch h) h1,h2.mv x y)
 |no=>~r
 |mk=>~r
T! jX.dM{a:Addr}{c:Cell}(r:jX K al lo H a c):H a≠none/\(∀ps,H a≠some (.iZ ps))/\(∀q,H a≠some (kJ a q)):=by
 cases c with
 |li zs=>o!⟨vs,h1,h2⟩:=r;rw[h1];~\(nofun,λ_=>nofun,λ_ w=>by u! kJ at w;~nomatch w)
 |ob C fs=>o!⟨dx,us,h1,h2⟩:=r;rw[h1];~\(nofun,λ_=>nofun,λ_ w=>by u! kJ at w;~nomatch w)
 |dk kvs=>o!⟨us,h1,h2⟩:=r;rw[h1];~\(nofun,λ_=>nofun,λ_ w=>by u! kJ at w;~nomatch w)
 |dt kvs=>o!⟨us,h1,h2⟩:=r;rw[h1];~\(nofun,λ_=>nofun,λ_ w=>by u! kJ at w;~nomatch w)
 |no=>~r.elim
 |mk=>~r.elim
T! jX.nTT{a:Addr}{c:Cell}(r:jX K al lo H a c){o:HO}(h:H a=some o):¬ZV o:=by
 rintro (⟨ys,rfl⟩|⟨ps,rfl⟩)
 ·cases c with
  |li zs=>o!⟨vs,h1,h2⟩:=r;rw[h]at h1;c! h1
  |ob C fs=>o!⟨dx,us,h1,h2⟩:=r;rw[h]at h1;c! h1
  |dk kvs=>o!⟨us,h1,h2⟩:=r;rw[h]at h1;c! h1
  |dt kvs=>o!⟨us,h1,h2⟩:=r;rw[h]at h1;c! h1
  |no=>~r.elim
  |mk=>~r.elim
 ·~r.dM.2.1 ps h
end
section
variable{K:W.Frag}{B:Z0}{al:Addr->Prop}{lo:Lo}{H H':Hp}{σ:St}{ρ:aJ}{S:aC}
T! EZ.start{zs:List Z}(tt:jZ K H)(fr:∀a,H a=none->al a)(st:vH K al lo H S):EZ K \(H,al,lo,S.length) al lo H S where
 fr:=λ_ _ _ h _=>h
 hf:=λ_ h=>h
 tt:=tt
 fresh:=fr
 st:=st
 lx:=λ_ _ h=>h
 nw:=λ_ _ h=>.inl h
 bd:=λn a h=>by o!⟨c,e,_⟩:=st.at' n a h;~(List.getElem?_eq_some_iff.mp e).1
 sz:=Nat.le_refl _
 xt:=.refl
 sb:=λ_ h=>.inl h
T! EZ.grow(r:EZ K B al lo H S)(s:gr K H H'):EZ K B al lo H' S where
 fr:=λb o n h w=>s.at' b o n (r.fr b o n h w)
 hf:=λb h=>r.hf b (s.fr b h)
 tt:=s.tt r.tt
 fresh:=λa h=>r.fresh a (s.fr a h)
 st:={
  at':=λn a h=>by o!⟨c,e,q⟩:=r.st.at' n a h;~\(c,e,q.mv (.of s) .refl λo no h=>s.at' _ o no h)
  has:=r.st.has
  na:=r.st.na
  inj:=r.st.inj
  tl:=λm b o hb ho=>by
   cases q:H b with
   |none=>~r.fresh b q
   |some o0=>
    by_cases nt:NT o0
    · h! e:=s.at' b o0 nt q
      rw[hb]at e;c! e;~r.st.tl m b o q ho
    · ~r.st.tl m b o0 q (.inr (Classical.byContradiction λw=>nt λps e=>w \(ps,e)))}
 lx:=r.lx
 nw:=r.nw
 bd:=r.bd
 sz:=r.sz
 xt:=r.xt.trans (.of s)
 sb:=r.sb
T! RZ.grow(r:RZ K B al lo H σ ρ S)(s:gr K H H'):RZ K B al lo H' σ ρ S:=
 \(r.toEZ.grow s,r.len,λi z e=>let\(v,h1,h2):=r.vr i z e;\(v,h1,h2.mv (.of s) .refl))
D! adw:Option Z->Sl
 |some (.d x)=>.sh x
 |_=>.no
D! dB(ρ:aJ):Ev:=ρ.map adw
T! RZ.rs(r:RZ K B al lo H σ ρ S):RS K al H al H σ (dB ρ) where
 same:=.refl H
 tt:=r.tt
 fresh:=r.fresh
 sub:=λ_ h=>h
 pf:=r.fresh
 len:=by u! dB;rw[List.length_map];~r.len
 sh:=λi d h=>by
  u! dB at h;rw[List.getElem?_map]at h;o!⟨z,h1,h2⟩:=Option.map_eq_some_iff.mp h;cases z with
  |none=>c! h2
  |some z=>
   cases z with
   |d x=>c! h2;~r.vr i _ h1
   |loc n=>c! h2
   |tk ks=>c! h2
 ow:=λi ds h=>by
  u! dB at h;rw[List.getElem?_map]at h;o!⟨z,h1,h2⟩:=Option.map_eq_some_iff.mp h;cases z with
  |none=>c! h2
  |some z=>c! z<;>c! h2
 apart:=λi j ds Eh a h _ _ _=>by
  u! dB at h;rw[List.getElem?_map]at h;o!⟨z,h1,h2⟩:=Option.map_eq_some_iff.mp h;cases z with
  |none=>c! h2
  |some z=>c! z<;>c! h2
T! RZ.set(r:RZ K B al lo H σ ρ S){i:Nat}{v:V}{z:Z}(hi:i<ρ.length)(q:gB K al lo H v z):RZ K B al lo H (σ.set i (some v)) (ρ.set i (some z)) S where
 toEZ:=r.toEZ
 len:=by rw[List.length_set,List.length_set];~r.len
 vr:=λj e h=>by
  by_cases w:i=j
  ·subst w
   rw[List.getElem?_set_self hi]at h;c! h;~\(v,List.getElem?_set_self (by rw[<-r.len];~hi),q)
  ·rw[List.getElem?_set_ne w]at h
   o!⟨u,a,b⟩:=r.vr j e h;~\(u,by rw[List.getElem?_set_ne w];~a,b)
D! j8(lo:Lo)(n:Nat)(p:Addr):Lo:=λm=>if m=n then some p else lo m
T! vH.none(st:vH K al lo H S):lo S.length=Option.none:=by
 cases h:lo S.length with
 |none=>rfl
 |some a=>
  o!⟨c,e,_⟩:=st.at' _ a h;h!:=(List.getElem?_eq_some_iff.mp e).1;om
T! wj(st:vH K al lo H S)(p:Addr):Lx lo (j8 lo S.length p):=λn a h=>by
 u! j8;rw[if_neg];·~h
 ·intro w;rw[w,st.none]at h;c! h
T! CQ{p:Addr}{o:HO}(hp:H p=none):Xt al H (λb=>al b/\b≠p) (upd H p o):=λb u _ hb e=>\(\(hb,qL e hp),by rw[cD (qL e hp)];~e)
T! EZ.new(r:EZ K B al lo H S){p:Addr}{o:HO}{c:Cell}(hp:H p=none)(no:NT o)(hc:jX K (λb=>al b/\b≠p) (j8 lo S.length p) (upd H p o) p c)(cn:c≠.no):
    EZ K B (λb=>al b/\b≠p) (j8 lo S.length p) (upd H p o) (S++[c]):=by
 h! s:gr K H (upd H p o):=mD hp;h! x:Xt al H (λb=>al b/\b≠p) (upd H p o):=CQ hp;h! g:=r.grow s;r!\(g.fr,g.hf,g.tt,λa h=>\(g.fresh a h,λw=>by rw[w,gG]at h;cases h),\(λn a h=>?_,λn c' h w w'=>?_,λn a h w=>?_,λm n a h1 h2=>?_,λm b u hb hu=>?_),λn a h=>wj r.st p n a (r.lx n a h),λn a h=>?_,r.bd,by rw[List.length_append];h!:=r.sz;om,r.xt.trans x,λb hb=>r.sb b hb.1)
 ·u! j8 at h
  by_cases w:n=S.length
  ·rw[if_pos w]at h;c! h
   ~\(c,by rw[w];simp,hc)
  ·rw[if_neg w]at h
   o!⟨c',e,q⟩:=r.st.at' n a h;h! ne:a≠p:=λz=>q.dM.1 (by rw[z];~hp);~\(c',by rw[List.getElem?_append_left (List.getElem?_eq_some_iff.mp e).1];~e,q.mv x (wj r.st p) λu _ h=>by rw[cD ne];~h)
 ·by_cases z:n<S.length
  ·rw[List.getElem?_append_left z]at h
   o!⟨a,h1⟩:=r.st.has n c' h w w';~\(a,wj r.st p n a h1)
  ·h!:n=S.length:=by
    h!:=(List.getElem?_eq_some_iff.mp h).1;rw[List.length_append,List.length_singleton]at this;om
   ~\(p,by u! j8;rw[if_pos this])
 ·u! j8 at h
  by_cases z:n=S.length;·rw[if_pos z]at h;c! h;~w.2 rfl
  ·rw[if_neg z]at h;~r.st.na n a h w.1
 ·h! old:∀k b,lo k=some b->b≠p:=λk b hk z=>by
   o!⟨c',_,q⟩:=r.st.at' k b hk;~q.dM.1 (by rw[z];~hp)
  u! j8 at h1 h2;by_cases z:m=S.length
  ·rw[if_pos z]at h1;c! h1
   by_cases y:n=S.length;·om
   ·rw[if_neg y]at h2;~absurd rfl (old n _ h2)
  ·rw[if_neg z]at h1
   by_cases y:n=S.length;·rw[if_pos y]at h2;c! h2;~absurd rfl (old m _ h1)
   ·rw[if_neg y]at h2;~r.st.inj m n a h1 h2
 ·h! m':S[0]?=some .mk:=by
   cases S with
   |nil=>
    h! e:some c=some Cell.mk:=m;c! e;~hc.elim
   |cons d r=>~m
  by_cases z:b=p
  ·rw[z]at hb
   ~absurd hu (hc.nTT hb)
  ·rw[cD z]at hb
   ~\(r.st.tl m' b u hb hu,z)
 ·u! j8 at h
  by_cases z:n=S.length;·rw[if_pos z]at h;c! h;~.inr \(r.hf _ hp,by rw[z];~r.sz)
  ·rw[if_neg z]at h;~r.nw n a h
T! RZ.new(r:RZ K B al lo H σ ρ S){p:Addr}{o:HO}{c:Cell}(hp:H p=none)(no:NT o)(hc:jX K (λb=>al b/\b≠p) (j8 lo S.length p) (upd H p o) p c)(cn:c≠.no):
    RZ K B (λb=>al b/\b≠p) (j8 lo S.length p) (upd H p o) σ ρ (S++[c]):=
 \(r.toEZ.new hp no hc cn,r.len,λi z e=>let\(v,h1,h2):=r.vr i z e;\(v,h1,h2.mv (CQ hp) (wj r.st p)))
T! EZ.write(r:EZ K B al lo H S){n:Nat}{a:Addr}{o:HO}{c:Cell}(hn:lo n=some a)(no:NT o)(nc:∀q,o≠kJ a q)(hc:jX K al lo (upd H a o) a c)(cn:c≠.no):EZ K B al lo (upd H a o) (S.set n c)/\Xt al H al (upd H a o):=by
 o!⟨c0,e0,q0⟩:=r.st.at' n a hn;h! hl:n<S.length:=(List.getElem?_eq_some_iff.mp e0).1;h! na:=r.st.na n a hn;h! x:Xt al H al (upd H a o):=λb u _ hb e=>\(hb,by rw[cD λw=>na (by rw[<-w];~hb)];~e);r!\(\(λb u nu h w=>?_,λb h=>?_,r.tt.upd q0.dM.2.1 q0.dM.2.2,λb h=>?_,\(λm b h=>?_,λm c' h w w'=>?_,r.st.na,r.st.inj,λm b u hb hu=>?_),r.lx,r.nw,r.bd,by rw[List.length_set];~r.sz,r.xt.trans x,r.sb),x)
 ·h!:=r.fr b u nu h w
  by_cases z:b=a
  ·subst z
   rcases r.nw n b hn with q|q;·~absurd q (w n)
   ·rw[q.1]at h;c! h
  ·rw[cD z];~this
 ·by_cases z:b=a
  ·rw[z,gG]at h;c! h
  ·rw[cD z]at h;~r.hf b h
 ·by_cases z:b=a
  ·rw[z,gG]at h;c! h
  ·rw[cD z]at h;~r.fresh b h
 ·by_cases z:n=m
  ·subst z
   rw[hn]at h;c! h;~\(c,List.getElem?_set_self hl,hc)
  ·o!⟨c',e,q⟩:=r.st.at' m b h
   r!\(c',by rw[List.getElem?_set_ne z];~e,q.mv x .refl λu _ h'=>?_);rw[cD λw=>z (r.st.inj n m a hn (by rw[<-w];~h))];~h'
 ·by_cases z:n=m
  ·subst z;~\(a,hn)
  ·rw[List.getElem?_set_ne z]at h;~r.st.has m c' h w w'
 ·h! m':S[0]?=some .mk:=by
   by_cases z:n=0
   ·subst z
    rw[List.getElem?_set_self hl]at m;c! m;~hc.elim
   ·rw[List.getElem?_set_ne z]at m;~m
  by_cases z:b=a
  ·rw[z]at hb
   ~absurd hu (hc.nTT hb)
  ·rw[cD z]at hb
   ~r.st.tl m' b u hb hu
T! RZ.write(r:RZ K B al lo H σ ρ S){n:Nat}{a:Addr}{o:HO}{c:Cell}(hn:lo n=some a)(no:NT o)(nc:∀q,o≠kJ a q)(hc:jX K al lo (upd H a o) a c)(cn:c≠.no):RZ K B al lo (upd H a o) σ ρ (S.set n c)/\Xt al H al (upd H a o):=
 let\(e,x):=r.toEZ.write hn no nc hc cn
 \(\(e,r.len,λi z e=>let\(v,h1,h2):=r.vr i z e;\(v,h1,h2.mv x .refl)),x)
end
end P2
namespace P2
open PySem L2
inductive RX(α:Type) where
 |ok(a:α)(S:aC)|ex(c:Addr)(ns:List Str)(ds:List D)(S:aC)|bad
D! RX.bind{α β:Type}:RX α->(α->aC->RX β)->RX β
 |.ok a S,f=>f a S
 |.ex c ns ds S,_=>.ex c ns ds S
 |.bad,_=>.bad
D! iC{α:Type}(r:R α)(S:aC):RX α:=match r with
 |.ok a=>.ok a S
 |.ex c ns ds=>.ex c ns ds S
 |.bad=>.bad
D! bj{α:Type}(K:W.Frag)(B:Z0)(E:XK)(al:Addr->Prop)(lo:Lo)(H:Hp)(σ:St)(ρ:aJ)(r:RX α)(k:α->(Addr->Prop)->Lo->Hp->aC->Prop):Prop:=match r with
 |.ok x S'=>∀aG bh H',RZ K B aG bh H' σ ρ S'->Xt al H aG H'->Lx lo bh->k x aG bh H' S'
 |.ex c ns ds S'=>∀aG bh H' dx,EZ K B aG bh H' S'->XR K aG H' dx ns ds->E (.ref c) dx H'
 |.bad=>False
section
variable{α β:Type}{K:W.Frag}{B:Z0}{E:XK}{al aG:Addr->Prop}{lo bh:Lo}{H H':Hp}{σ:St}{ρ:aJ}{S S':aC}{k k':α->(Addr->Prop)->Lo->Hp->aC->Prop}
T! bj.up{r:RX α}(h:bj K B E al lo H σ ρ r k)(x:Xt al H aG H')(y:Lx lo bh):bj K B E aG bh H' σ ρ r k:=by
 cases r with
 |ok a S=>~λcI eN H2 z x2 y2=>h cI eN H2 z (x.trans x2) (y.trans y2)
 |ex c ns ds S=>~h
 |bad=>~h
T! bj.mono{r:RX α}(h:bj K B E al lo H σ ρ r k)(m:∀x aG bh H' S',RZ K B aG bh H' σ ρ S'->Xt al H aG H'->Lx lo bh->k x aG bh H' S'->k' x aG bh H' S'):bj K B E al lo H σ ρ r k':=by
 cases r with
 |ok a S=>~λcI eN H2 z x2 y2=>m _ _ _ _ _ z x2 y2 (h cI eN H2 z x2 y2)
 |ex c ns ds S=>~h
 |bad=>~h
T! bj.split{r:RX α}{g:α->aC->RX β}{k:β->(Addr->Prop)->Lo->Hp->aC->Prop}(h:bj K B E al lo H σ ρ (r.bind g) k):bj K B E al lo H σ ρ r (λx aG bh H' S'=>bj K B E aG bh H' σ ρ (g x S') k):=by
 cases r with
 |ok a S=>~λcI eN H2 z x2 y2=>bj.up h x2 y2
 |ex c ns ds S=>~h
 |bad=>~h
T! bj.toAft{r:R α}(z:RZ K B al lo H σ ρ S)(h:bj K B E al lo H σ ρ (iC r S) k):Aft K al E H r (λx H'=>k x al lo H' S):=by
 cases r with
 |ok a=>~λH1 s1=>h al lo H1 (z.grow s1) (.of s1) .refl
 |ex c ns ds=>~λdx H1 s1 q=>h al lo H1 dx (z.toEZ.grow s1) q
 |bad=>~h
end
D! ZE(X:Cx)(E:XK)(e:Expr)(f:K!):Prop:=∃t:TE,PE X e t/\
 ∀B al lo H σ ρ S (Q:VK),RZ X.K B al lo H σ ρ S->bj X.K B E al lo H σ ρ (f ρ S) (λz aG bh H' _=>∀v,gB X.K aG bh H' v z->Q v H')->t σ H Q
D! ZT(X:Cx)(E:XK)(e:Expr)(f:aJ->aC->RX Bool):Prop:=∃t:TT,PT X e t/\
 ∀B al lo H σ ρ S (Q:Bool->Hp->Prop),RZ X.K B al lo H σ ρ S->bj X.K B E al lo H σ ρ (f ρ S) (λb _ _ H' _=>Q b H')->t σ H Q
D! ZA(X:Cx)(E:XK)(es:List Expr)(f:aJ->aC->RX (List Z)):Prop:=∃t:TA,PA X es t/\
 (∀B al lo H σ ρ S (Q:List V->Hp->Prop),RZ X.K B al lo H σ ρ S->bj X.K B E al lo H σ ρ (f ρ S) (λzs aG bh H' _=>∀vs,dZ X.K aG bh H' vs zs->Q vs H')->t σ H Q)/\∀ρ S zs S',f ρ S=.ok zs S'->zs.length=es.length
D! zD(f:Ev->R D):K!:=λρ S=>(iC (f (dB ρ)) S).bind λd S=>.ok (.d d) S
D! zB(f:Ev->R Bool):aJ->aC->RX Bool:=λρ S=>iC (f (dB ρ)) S
D! zV(i:Nat):K!:=λρ S=>match ρ[i]? with
 |some (some z)=>.ok z S
 |_=>.bad
D! jg:List Z->Option (List D)
 |[]=>some []
 |.d x::r=>(jg r).map (x:: ·)
 |_::_=>none
T! zy:∀{zs:List Z} {ds:List D},jg zs=some ds->zs=ds.map .d
 |[],_,h=>by c! h;rfl
 |.d x::r,ds,h=>by
  o!⟨t,h1,h2⟩:=Option.map_eq_some_iff.mp (show(jg r).map (x:: ·)=some ds from h);subst h2;rw[List.map_cons,<-zy h1]
 |.loc _::_,_,h=>by c! h
T! zA:∀ds:List D,jg (ds.map .d)=some ds
 |[]=>rfl
 |d::r=>by show(jg (r.map .d)).map (d:: ·)=_;rw[zA r];rfl
D! z1(g:D->R D)(a:K!):K!:=λρ S=>(a ρ S).bind λx S1=>match x with
 |.d x=>(iC (g x) S1).bind λd S=>.ok (.d d) S
 |_=>.bad
D! z2(g:D->D->R D)(a b:K!):K!:=λρ S=>(a ρ S).bind λx S1=>(b ρ S1).bind λy S2=>match x,y with
 |.d x,.d y=>(iC (g x y) S2).bind λd S=>.ok (.d d) S
 |_,_=>.bad
D! il(t:D->R Bool)(a:K!):aJ->aC->RX Bool:=λρ S=>(a ρ S).bind λx S1=>match x with
 |.d x=>iC (t x) S1
 |_=>.bad
D! Oj(c:aJ->aC->RX Bool)(a b:K!):K!:=λρ S=>(c ρ S).bind λk S1=>if k=true then a ρ S1 else b ρ S1
D! u6(a b:aJ->aC->RX Bool):aJ->aC->RX Bool:=λρ S=>(a ρ S).bind λk S1=>if k=true then b ρ S1 else .ok false S1
D! aW:aJ->aC->RX (List Z):=λ_ S=>.ok [] S
D! aN(a:K!)(r:aJ->aC->RX (List Z)):aJ->aC->RX (List Z):=λρ S=>(a ρ S).bind λx S1=>(r ρ S1).bind λxs S2=>.ok (x::xs) S2
D! zF(g:R!)(a:aJ->aC->RX (List Z)):K!:=λρ S=>(a ρ S).bind λzs S1=>match jg zs with
 |some ds=>(iC (g ds) S1).bind λd S=>.ok (.d d) S
 |none=>.bad
D! zZ(F:Z!)(a:aJ->aC->RX (List Z)):K!:=λρ S=>(a ρ S).bind F
section
variable{X:Cx}{E:XK}{e a b c:Expr}{es rest:List Expr}{pos:Pos}{f fa fb:K!}{ga gb:aJ->aC->RX Bool}{fs:aJ->aC->RX (List Z)}
T! bA{f:Ev->R D}(h:DE X E e f):ZE X E e (zD f):=by
 o!⟨t,p,r⟩:=h;r!\(t,p,λB al lo H σ ρ S Q z h=>r _ _ _ _ _ _ _ z.rs ?_);h!:=bj.toAft z (bj.split h);~Aft.mono this λd H1 s1 h1 v rv=>h1 al lo H1 (z.grow s1) .refl .refl v rv
T! vf{f:Ev->R Bool}(h:DT X E e f):ZT X E e (zB f):=by
 o!⟨t,p,r⟩:=h;~\(t,p,λB al lo H σ ρ S Q z h=>r _ _ _ _ _ _ _ z.rs (bj.toAft z h))
T! bJ(i:Nat){x:Str}(hN:X.N[i]?=some x:=by rfl)(hv:zm X.env.scope x:=by first|~Or.inl rfl|~Or.inr l!|~Or.inr (Or.inr rfl))(hd:E!:=by decide)
    (hcd:(x==("__classdict__":Str))=false:=by decide):ZE X E (.Name x pos) (zV i):=by
 r!\(_,Bv hN hv hd hcd,λB al lo H σ ρ S Q z h=>?_);u! zV at h;split at h
 ·rename_i z0 q
  o!⟨v,e1,e2⟩:=z.vr i z0 q;~\(v,e1,h al lo H z .refl .refl v e2)
 ·~h.elim
T! CW{op:Operator}{g:D->D->R D}(ho:je X E (binaryOp op) g)(ha:ZE X E a fa)(hb:ZE X E b fb):ZE X E (.BinOp a op b pos) (z2 g fa fb):=by
 o!⟨r,ro,rr⟩:=ho;o!⟨ta,pa,ra⟩:=ha;o!⟨tb,pb,rb⟩:=hb;r!\(_,ac9 ro pa pb,λB al lo H σ ρ S Q s h=>ra _ _ _ _ _ _ _ _ s (bj.mono (bj.split h) λx bW lo1 H1 S1 s1 x1 y1 h1 v rv=>rb _ _ _ _ _ _ _ _ s1 (bj.mono (bj.split h1) λy cI eN H2 S2 s2 x2 y2 h2 u ru=>?_)));split at h2;·~rr _ _ _ _ _ _ _ s2.fresh (gB.mv x2 y2 rv) ru (Aft.mono (bj.toAft s2 (bj.split h2)) λd H3 s3 h3 w lQ=>h3 cI eN H3 (s2.grow s3) .refl .refl w lQ)
 ·~h2.elim
T! oK{op:CmpOp}{g:D->D->R D}(ho:je X E (compareOp op) g)(ha:ZE X E a fa)(hb:ZE X E b fb)(hm:behindInMarks op b=false:=by first|~Tf _|with_unfolding_all rfl):ZT X E (.Compare a [op] [b] pos) (il tB (z2 g fa fb)):=by
 o!⟨r,ro,rr⟩:=ho;o!⟨ta,pa,ra⟩:=ha;o!⟨tb,pb,rb⟩:=hb;r!\(_,adv ro pa pb hm,λB al lo H σ ρ S Q s h=>ra _ _ _ _ _ _ _ _ s (bj.mono (bj.split (bj.split h)) λx bW lo1 H1 S1 s1 x1 y1 h1 v rv=>rb _ _ _ _ _ _ _ _ s1 (bj.mono (bj.split h1) λy cI eN H2 S2 s2 x2 y2 h2 u ru=>?_)));split at h2
 ·r! rr _ _ _ _ _ _ _ s2.fresh (gB.mv x2 y2 rv) ru (Aft.mono (bj.toAft s2 (bj.split h2)) λd H3 s3 h3 w lQ=>?_)
  h! h4:=h3 cI eN H3 (s2.grow s3) .refl .refl;~Ht lQ (Aft.mono (bj.toAft (s2.grow s3) h4) λ_ _ _ q=>q)
 ·~h2.elim
D! ZW(X:Cx)(E:XK)(e:Expr)(f:aJ->aC->RX Bool):Prop:=∃t:TT,PW X e t/\
 ∀B al lo H σ ρ S (Q:Bool->Hp->Prop),RZ X.K B al lo H σ ρ S->bj X.K B E al lo H σ ρ (f ρ S) (λb _ _ H' _=>Q b H')->t σ H Q
T! ZW.zt(h:ZW X E e ga):ZT X E e ga:=let\(t,p,r):=h;\(t,p.pt,r)
T! asa(h:ZT X E a ga):ZW X E (.BoolOp .And [a] pos) ga:=let\(t,p,r):=h;\(t,ady p,r)
T! agV(ha:ZT X E a ga)(hb:ZW X E (.BoolOp .And (b::rest) pos) gb):ZW X E (.BoolOp .And (a::b::rest) pos) (u6 ga gb):=by
 o!⟨ta,pa,ra⟩:=ha;o!⟨tb,pb,rb⟩:=hb;r!\(_,adx pa pb,λB al lo H σ ρ S Q s h=>ra _ _ _ _ _ _ _ _ s (bj.mono (bj.split h) λc bW lo1 H1 S1 s1 _ _ h1=>?_));cases c with
 |true=>~qJ (rb _ _ _ _ _ _ _ _ s1 h1)
 |false=>~qI (h1 bW lo1 H1 s1 .refl .refl)
T! ar0(hc:ZT X E c ga)(ha:ZE X E a fa)(hb:ZE X E b fb):ZE X E (.IfExp c a b pos) (Oj ga fa fb):=by
 o!⟨tc,pc,rc⟩:=hc;o!⟨ta,pa,ra⟩:=ha;o!⟨tb,pb,rb⟩:=hb;r!\(_,ac7 pc pa pb,λB al lo H σ ρ S Q s h=>rc _ _ _ _ _ _ _ _ s (bj.mono (bj.split h) λc bW lo1 H1 S1 s1 _ _ h1=>?_));cases c with
 |true=>~qJ (ra _ _ _ _ _ _ _ _ s1 h1)
 |false=>~qI (rb _ _ _ _ _ _ _ _ s1 h1)
T! ar3{g:D->D->R D}(ho:O3 X E g)(ha:ZE X E a fa)(hb:ZE X E b fb)(hs:Ph b:=by ~λ_ _=>rfl):ZE X E (.Subscript a b pos) (z2 g fa fb):=by
 o!⟨r,ro,rr⟩:=ho;o!⟨ta,pa,ra⟩:=ha;o!⟨tb,pb,rb⟩:=hb;r!\(_,ac8 ro pa pb hs,λB al lo H σ ρ S Q s h=>ra _ _ _ _ _ _ _ _ s (bj.mono (bj.split h) λx bW lo1 H1 S1 s1 x1 y1 h1 v rv=>rb _ _ _ _ _ _ _ _ s1 (bj.mono (bj.split h1) λy cI eN H2 S2 s2 x2 y2 h2 u ru=>?_)));split at h2;·~rr _ _ _ _ _ _ _ s2.fresh (gB.mv x2 y2 rv) ru (Aft.mono (bj.toAft s2 (bj.split h2)) λd H3 s3 h3 w lQ=>h3 cI eN H3 (s2.grow s3) .refl .refl w lQ)
 ·~h2.elim
T! cN:ZA X E [] aW:=\(_,Mx,λB al lo H σ ρ S Q s h=>h al lo H s .refl .refl _ .nil,λ_ _ _ _ h=>by c! h;rfl)
T! bB(ha:ZE X E e fa)(hr:ZA X E es fs)(hs:W!:=by rfl):ZA X E (e::es) (aN fa fs):=by
 o!⟨ta,pa,ra⟩:=ha;o!⟨tb,pb,rb,lb⟩:=hr;r!\(_,Mw pa pb hs,λB al lo H σ ρ S Q s h=>ra _ _ _ _ _ _ _ _ s (bj.mono (bj.split h) λx bW lo1 H1 S1 s1 x1 y1 h1 v rv=>rb _ _ _ _ _ _ _ _ s1 (bj.mono (bj.split h1) λy cI eN H2 S2 s2 x2 y2 h2 u ru=>?_)),λρ S zs S' h=>?_);·~h2 cI eN H2 s2 .refl .refl _ (.cons (rv.mv x2 y2) ru)
 ·u! aN at h
  cases q:fa ρ S with
  |bad=>rw[q]at h;c! h
  |ex c ns ds S1=>rw[q]at h;c! h
  |ok x S1=>
   rw[q]at h;h! h':(fs ρ S1).bind (λxs S2=>.ok (x::xs) S2)=RX.ok zs S':=h;cases q2:fs ρ S1 with
   |bad=>rw[q2]at h';c! h'
   |ex c ns ds S1=>rw[q2]at h';c! h'
   |ok xs S2=>
    rw[q2]at h';c! h';rw[List.length_cons,List.length_cons,lb _ _ _ _ q2]
T! tH{x1}(ha:ZA X E es fs):ZE X E (.Tuple es x1 pos) (zF bK fs):=by
 o!⟨ta,pa,ra,_⟩:=ha;r!\(_,adb pa,λB al lo H σ ρ S Q s h=>ra _ _ _ _ _ _ _ _ s (bj.mono (bj.split h) λx bW lo1 H1 S1 s1 x1 y1 h1 v rv=>?_));split at h1
 ·rename_i ds e
  h!:=zy e;subst this;h! rv':=rv.toD;h! h2:=Aft.mono (bj.toAft s1 (bj.split h1)) λd H3 s3 h3=>h3 bW lo1 H3 (s1.grow s3) .refl .refl;u! bK at h2;by_cases z:ds.length<=sizeLine
  ·rw[if_pos z]at h2
   ~\(by rw[rv'.length];~z,λp hp=>h2 _ (mD hp) _ (rv'.XS hp (s1.fresh p hp)))
  ·rw[if_neg z]at h2
   ~h2.elim
 ·~h1.elim
variable{x:Str}{p:Pos}
T! agQ{id:String}{g:R!}(hc:pC X E (.builtin id) g)(hg:Gl X x)(hm:X.mg x=none)(hv:bootBuiltins x=some (.builtin id))(ha:ZA X E (e::es) fs)(hn:x≠"__name__":=by decide)(hdb:E!:=by decide)
    (he:W!:=by rfl)(hpl:Q!:=by rfl):ZE X E (.Call (.Name x p) (e::es) [] pos) (zF g fs):=by
 o!⟨r,rc,rr⟩:=hc;o!⟨ta,pa,ra,_⟩:=ha;r!\(_,U3 rc hg hm hv pa hn hdb he hpl,λB al lo H σ ρ S Q s h=>ra _ _ _ _ _ _ _ _ s (bj.mono (bj.split h) λx bW lo1 H1 S1 s1 x1 y1 h1 v rv=>?_));split at h1
 ·rename_i ds e
  h!:=zy e;subst this;~rr _ _ _ _ _ s1.fresh rv.toD (Aft.mono (bj.toAft s1 (bj.split h1)) λd H3 s3 h3=>h3 bW lo1 H3 (s1.grow s3) .refl .refl)
 ·~h1.elim
variable{k n:Nat}{ps:List Str}{F:R!}
T! pX(G:jG X.prog X.w X.K X.mg X.base (eE X.prog X.w) k x ps (bu n X.K F))(hr:dI k X.A)(hg:Gl X x)(hx:Passes (eE X.prog X.w) X E)(hn:(e::es).length=n)(ha:ZA X E (e::es) fs)(hdb:E!:=by decide)
    (he:W!:=by rfl)(hpl:Q!:=by rfl):ZE X E (.Call (.Name x p) (e::es) [] pos) (zF F fs):=by
 o!⟨ta,pa,ra,lb⟩:=ha;r!\(_,U4 G hr hg hx pa hdb he hpl,λB al lo H σ ρ S Q s h=>ra _ _ _ _ _ _ _ _ s ?_);u! zF at h;cases q:fs ρ S with
 |bad=>rw[q]at h;~h.elim
 |ex c ns ds S1=>rw[q]at h;~h
 |ok zs S1=>
  rw[q]at h;intro bW lo1 H1 s1 x1 y1 vs rv;h! ll:=lb _ _ _ _ q;h! h1:bj X.K B E al lo H σ ρ (match jg zs with|some ds=>(iC (F ds) S1).bind λd S=>.ok (.d d) S|none=>.bad) (λz aG bh H' _=>∀v,gB X.K aG bh H' v z->Q v H'):=h;split at h1
  ·rename_i ds e
   h!:=zy e;subst this;h! rv':=rv.toD;rw[List.append_nil];~\(by rw[rv'.length];rw[List.length_map]at ll;rw[ll];~hn,s1.tt,bW,ds,s1.fresh,rv',Aft.mono (bj.toAft s1 (bj.split (bj.up h1 x1 y1))) λd H3 s3 h3=>h3 bW lo1 H3 (s1.grow s3) .refl .refl)
  ·~h1.elim
end
D! agW(K:W.Frag)(B:Z0)(E:XK)(r:RX Z)(Q:VK):Prop:=match r with
 |.ok z S'=>∀aG bh H' v,EZ K B aG bh H' S'->gB K aG bh H' v z->Q v H'
 |.ex c ns ds S'=>∀aG bh H' dx,EZ K B aG bh H' S'->XR K aG H' dx ns ds->E (.ref c) dx H'
 |.bad=>False
D! bD(n:Nat)(K:W.Frag)(F:Z!):Sp:=λvs H Q E=>vs.length=n/\jZ K H/\∃al lo zs S,(∀a,H a=none->al a)/\vH K al lo H S/\dZ K al lo H vs zs/\agW K \(H,al,lo,S.length) E (F zs S) Q
T! EZ.trans{K:W.Frag}{B:Z0}{al aG:Addr->Prop}{lo bh:Lo}{H H':Hp}{S S':aC}(r:EZ K B al lo H S)(q:EZ K \(H,al,lo,S.length) aG bh H' S'):EZ K B aG bh H' S' where
 fr:=λb o n h w=>q.fr b o n (r.fr b o n h w) λm hm=>by
  rcases r.nw m b hm with z|z;·~w m z
  ·rw[z.1]at h;c! h
 hf:=λb h=>r.hf b (q.hf b h)
 tt:=q.tt
 fresh:=q.fresh
 st:=q.st
 lx:=λn a h=>q.lx n a (r.lx n a h)
 nw:=λn a h=>by
  rcases q.nw n a h with z|z;·~r.nw n a z
  ·~.inr \(r.hf a z.1,Nat.le_trans r.sz z.2)
 bd:=r.bd
 sz:=Nat.le_trans r.sz q.sz
 xt:=r.xt.trans q.xt
 sb:=λa h=>by
  rcases q.sb a h with z|z;·~r.sb a z
  ·~.inr (r.hf a z)
T! RZ.after{K:W.Frag}{B:Z0}{al aG:Addr->Prop}{lo bh:Lo}{H H':Hp}{S S':aC}{σ:St}{ρ:aJ}(r:RZ K B al lo H σ ρ S)(q:EZ K \(H,al,lo,S.length) aG bh H' S'):RZ K B aG bh H' σ ρ S':=
 \(r.toEZ.trans q,r.len,λi z e=>let\(v,h1,h2):=r.vr i z e;\(v,h1,h2.mv q.xt q.lx))
section
variable{X:Cx}{E:XK}{e:Expr}{es:List Expr}{pos p:Pos}{fs:aJ->aC->RX (List Z)}{x:Str}{k n:Nat}{ps:List Str}{F:Z!}
T! jW(G:jG X.prog X.w X.K X.mg X.base (eE X.prog X.w) k x ps (bD n X.K F))(hr:dI k X.A)(hg:Gl X x)(hx:Passes (eE X.prog X.w) X E)(hn:(e::es).length=n)(ha:ZA X E (e::es) fs)(hdb:E!:=by decide)
    (he:W!:=by rfl)(hpl:Q!:=by rfl):ZE X E (.Call (.Name x p) (e::es) [] pos) (zZ F fs):=by
 o!⟨ta,pa,ra,lb⟩:=ha;r!\(_,U4 G hr hg hx pa hdb he hpl,λB al lo H σ ρ S Q s h=>ra _ _ _ _ _ _ _ _ s ?_);u! zZ at h;cases q:fs ρ S with
 |bad=>rw[q]at h;~h.elim
 |ex c ns ds S1=>rw[q]at h;~h
 |ok zs S1=>
  rw[q]at h;intro bW lo1 H1 s1 x1 y1 vs rv;h! ll:=lb _ _ _ _ q;h! h1:bj X.K B E al lo H σ ρ (F zs S1) (λz aG bh H' _=>∀v,gB X.K aG bh H' v z->Q v H'):=h;rw[List.append_nil];r!\(by rw[rv.length,ll];~hn,s1.tt,bW,lo1,zs,S1,s1.fresh,s1.st,rv,?_);cases q2:F zs S1 with
  |bad=>rw[q2]at h1;~h1.elim
  |ex c ns ds S2=>rw[q2]at h1;~λcI eN H2 dx e2 xr=>h1 cI eN H2 dx (s1.toEZ.trans e2) xr
  |ok z S2=>rw[q2]at h1;~λcI eN H2 v e2 VN=>h1 cI eN H2 (s1.after e2) (x1.trans e2.xt) (y1.trans e2.lx) v VN
end
end P2
namespace P2
open PySem L2
inductive aU where
 |nx(ρ:aJ)(S:aC)|rt(z:Z)(S:aC)|bk(ρ:aJ)(S:aC)|ct(ρ:aJ)(S:aC)|ex(c:Addr)(ns:List Str)(ds:List D)(S:aC)|bad
D! toZ{α:Type}(r:RX α)(k:α->aC->aU):aU:=match r with
 |.ok a S=>k a S
 |.ex c ns ds S=>.ex c ns ds S
 |.bad=>.bad
D! lA(r:aU)(k:aJ->aC->aU):aU:=match r with
 |.nx ρ S=>k ρ S
 |r=>r
D! fB(K:W.Frag)(B:Z0)(E:XK)(D:Ends)(al:Addr->Prop)(H:Hp):aU->Prop
 |.nx ρ S=>∀aG bh H' σ',Xt al H aG H'->RZ K B aG bh H' σ' ρ S->D.nx σ' H'
 |.bk ρ S=>∀aG bh H' σ',Xt al H aG H'->RZ K B aG bh H' σ' ρ S->D.bk σ' H'
 |.ct ρ S=>∀aG bh H' σ',Xt al H aG H'->RZ K B aG bh H' σ' ρ S->D.ct σ' H'
 |.rt z S=>∀aG bh H' v,EZ K B aG bh H' S->gB K aG bh H' v z->D.rt v H'
 |.ex c ns ds S=>∀aG bh H' dx,EZ K B aG bh H' S->XR K aG H' dx ns ds->E (.ref c) dx H'
 |.bad=>False
section
variable{K:W.Frag}{B:Z0}{E:XK}{D:Ends}{al aG:Addr->Prop}{lo:Lo}{H H':Hp}{s:aU}{σ:St}{ρ:aJ}
T! fB.ext(h:fB K B E D al H s)(x:Xt al H aG H'):fB K B E D aG H' s:=by
 cases s with
 |nx ρ S=>~λa l h1 eQ y r=>h a l h1 eQ (x.trans y) r
 |bk ρ S=>~λa l h1 eQ y r=>h a l h1 eQ (x.trans y) r
 |ct ρ S=>~λa l h1 eQ y r=>h a l h1 eQ (x.trans y) r
 |rt d S=>~h
 |ex c ns ds S=>~h
 |bad=>~h
T! fB.n8{α:Type}{r:RX α}{k:α->aC->aU}(h:fB K B E D al H (toZ r k)):bj K B E al lo H σ ρ r (λx aG bh H' S'=>fB K B E D aG H' (k x S')):=by
 cases r with
 |ok x S=>~λbW lo1 H1 s1 x1 y1=>fB.ext h x1
 |ex c ns ds S=>~h
 |bad=>~h
end
D! ZS(X:Cx)(E:XK)(b:Nat)(st:Stmt)(g:aJ->aC->aU):Prop:=∃t:TS,PS X st t/\
 ∀B:Z0,B.n=b->∀al lo H σ ρ S (D:Ends),RZ X.K B al lo H σ ρ S->fB X.K B E D al H (g ρ S)->t D σ H
D! rH(X:Cx)(E:XK)(b:Nat)(st:List Stmt)(g:aJ->aC->aU):Prop:=∃t:TS,lJ X st t/\
 ∀B:Z0,B.n=b->∀al lo H σ ρ S (D:Ends),RZ X.K B al lo H σ ρ S->fB X.K B E D al H (g ρ S)->t D σ H
D! f9:aJ->aC->aU:=.nx
D! aY(a b:aJ->aC->aU):aJ->aC->aU:=λρ S=>lA (a ρ S) b
D! fO(f:K!):aJ->aC->aU:=λρ S=>toZ (f ρ S) λ_ S1=>.nx ρ S1
D! fD(f:K!):aJ->aC->aU:=λρ S=>toZ (f ρ S) .rt
D! cU(i:Nat)(f:K!):aJ->aC->aU:=λρ S=>toZ (f ρ S) λz S1=>if i<ρ.length then .nx (ρ.set i (some z)) S1 else .bad
D! dH(c:aJ->aC->RX Bool)(a b:aJ->aC->aU):aJ->aC->aU:=λρ S=>toZ (c ρ S) λk S1=>if k=true then a ρ S1 else b ρ S1
section
variable{X:Cx}{E:XK}{b:Nat}{st:Stmt}{rest sa sb:List Stmt}{g u ga gb:aJ->aC->aU}{e c:Expr}{f:K!}{fc:aJ->aC->RX Bool}{pos:Pos}
T! km:rH X E b [] f9:=\(_,adt,λB hb al lo H σ ρ S _ s h=>h al lo H σ .refl s)
T! cL(h:ZS X E b st g):rH X E b [st] g:=let\(t,p,r):=h;\(t,U6 p,r)
T! bL(h1:ZS X E b st g)(h2:rH X E b rest u):rH X E b (st::rest) (aY g u):=by
 o!⟨t1,p1,r1⟩:=h1;o!⟨t2,p2,r2⟩:=h2;r!\(_,adq p1 p2,λB hb al lo H σ ρ S D s h=>r1 B hb al lo H σ ρ S _ s ?_);u! aY at h;cases q:g ρ S with
 |nx dW S1=>
  rw[q]at h;~λaG bh H' σ' x s'=>r2 B hb aG bh H' σ' dW S1 D s' (fB.ext h x)
 |bk dW S1=>rw[q]at h;~h
 |ct dW S1=>rw[q]at h;~h
 |rt d S1=>rw[q]at h;~h
 |ex c ns ds S1=>rw[q]at h;~h
 |bad=>rw[q]at h;~h
T! ar8:ZS X E b (.Break pos) .bk:=\(_,aop,λB hb al lo H σ ρ S _ s h=>h al lo H σ .refl s)
T! kj(he:ZE X E e f)(hs:swapsWith e none pos.line X.env=pure false:=by rfl):ZS X E b (.Expr e pos) (fO f):=by
 o!⟨t,p,r⟩:=he;~\(_,adk p hs,λB hb al lo H σ ρ S D s h=>r _ _ _ _ _ _ _ _ s (bj.mono (fB.n8 h) λz bW lo1 H1 S1 s1 x1 y1 h1 v rv=>h1 bW lo1 H1 σ .refl s1))
T! jd(he:ZE X E e f):ZS X E b (.Return (some e) pos) (fD f):=by
 o!⟨t,p,r⟩:=he;~\(_,adn p,λB hb al lo H σ ρ S D s h=>r _ _ _ _ _ _ _ _ s (bj.mono (fB.n8 h) λz bW lo1 H1 S1 s1 x1 y1 h1 v rv=>h1 bW lo1 H1 v s1.toEZ rv))
T! fP(i:Nat){x:Str}{pos':Pos}(hN:X.N.Nodup)(hi:X.N[i]?=some x)(hx:Loc X.env.scope x)(he:ZE X E e f)(hs:swapsWith e (some (.Name x pos')) pos.line X.env=pure false:=by rfl)(hf:V!:=by O!):
    ZS X E b (.Assign [.Name x pos'] e pos) (cU i f):=by
 o!⟨t,p,r⟩:=he;r!\(_,ado hN hi hx p hs hf,λB hb al lo H σ ρ S D s h=>r _ _ _ _ _ _ _ _ s (bj.mono (fB.n8 h) λz bW lo1 H1 S1 s1 x1 y1 h1 v rv=>?_));by_cases w:i<ρ.length
 ·S![w,if_true]at h1
  ~h1 bW lo1 H1 _ .refl (s1.set w rv)
 ·S![w,if_false]at h1
  ~h1.elim
T! iM(hc:ZT X E c fc)(ha:rH X E b sa ga)(hb:rH X E b sb gb):ZS X E b (.If c sa sb pos) (dH fc ga gb):=by
 o!⟨tc,pc,rc⟩:=hc;o!⟨ta,pa,ra⟩:=ha;o!⟨tb,pb,rb⟩:=hb;r!\(_,adm pc pa pb,λB hb al lo H σ ρ S D s h=>rc _ _ _ _ _ _ _ _ s (bj.mono (fB.n8 h) λk bW lo1 H1 S1 s1 x1 y1 h1=>?_));cases k with
 |true=>~qJ (ra _ hb _ _ _ _ _ _ _ s1 h1)
 |false=>~qI (rb _ hb _ _ _ _ _ _ _ s1 h1)
D! mJ(r:aU)(k:aJ->aC->aU):aU:=match r with
 |.nx ρ S=>k ρ S
 |.ct ρ S=>k ρ S
 |.bk ρ S=>.nx ρ S
 |r=>r
D! lB(c:aJ->aC->RX Bool)(b:aJ->aC->aU):Nat->aJ->aC->aU
 |0,_,_=>.bad
 |n+1,ρ,S=>toZ (c ρ S) λk S1=>if k=true then mJ (b ρ S1) (lB c b n)else .nx ρ S1
T! afS{K:W.Frag}{B:Z0}{E:XK}{al:Addr->Prop}{H:Hp}{D:Ends}{r:aU}{k:aJ->aC->aU}{N:St->Hp->Prop}(h:fB K B E D al H (mJ r k))
    (hN:∀aG bh H' σ' cP S',Xt al H aG H'->RZ K B aG bh H' σ' cP S'->fB K B E D aG H' (k cP S')->N σ' H'):fB K B E {D with nx:=N,ct:=N,bk:=D.nx} al H r:=by
 cases r with
 |nx ρ S=>~λaG bh H' σ' x s=>hN aG bh H' σ' ρ S x s (fB.ext h x)
 |ct ρ S=>~λaG bh H' σ' x s=>hN aG bh H' σ' ρ S x s (fB.ext h x)
 |bk ρ S=>~h
 |rt d S=>~h
 |ex c ns ds S=>~h
 |bad=>~h
T! Im(n:Nat)(hp:PassesOwn M! X.A X.env X.xe)(hc:ZT X E c fc)(hb:rH X E b sb gb):ZS X E b (.While c sb [] pos) (lB fc gb n):=by
 o!⟨tc,pc,rc⟩:=hc;o!⟨tb,pb,rb⟩:=hb;r!\(_,adp hp pc pb,λB hb al lo H σ ρ S D s h=>\(λm eQ H1=>∃bW lo1 dW S1,RZ X.K B bW lo1 H1 eQ dW S1/\fB X.K B E D bW H1 (lB fc gb m dW S1),\(n,al,lo,ρ,S,s,h),?_))
 rintro m eQ H1 ⟨bW,lo1,dW,S1,s1,h1⟩
 cases m with
 |zero=>~h1.elim
 |succ m=>
  r! rc _ _ _ _ _ _ _ _ s1 (bj.mono (fB.n8 h1) λk cI eN H2 S2 s2 x2 y2 h2=>?_);cases k with
  |true=>
   r! qJ \(λσ' H'=>∃bW lo1 dW S1,RZ X.K B bW lo1 H' σ' dW S1/\fB X.K B E D bW H' (lB fc gb m dW S1),λσ' H' z=>\(m,Nat.lt_succ_self m,z),rb _ hb _ _ _ _ _ _ _ s2 (afS (k:=lB fc gb m) h2 λaG bh H' σ' cP S' _ s' h'=>\(aG,bh,cP,S',s',h')))
  |false=>~qI (h2 cI eN H2 eQ .refl s2)
end
D! ZG(X:Cx)(tg:Expr)(a:D->aJ->Option aJ):Prop:=∃g:TG,PG X tg g/\
 ∀B al lo H σ ρ S v d (Q:St->Hp->Prop),RZ X.K B al lo H σ ρ S->Rep X.K al H v d->(∃cP,a d ρ=some cP/\∀σ',RZ X.K B al lo H σ' cP S->Q σ' H)->g v σ H Q
D! hV(i:Nat):D->aJ->Option aJ:=λd ρ=>if i<ρ.length then some (ρ.set i (some (.d d)))else none
D! hN:List D->aJ->Option aJ:=λds ρ=>match ds with
 |[]=>some ρ
 |_=>none
D! hT(n:Nat)(a:List D->aJ->Option aJ):D->aJ->Option aJ:=λd ρ=>match d with
 |.tup ds=>if ds.length=n then a ds ρ else none
 |_=>none
D! afH{α:Type}(r:Option α)(k:α->aU):aU:=match r with
 |some a=>k a
 |none=>.bad
D! sH(a:D->aJ->Option aJ)(b:aJ->aC->aU):List D->aJ->aC->aU
 |[],ρ,S=>.nx ρ S
 |d::r,ρ,S=>afH (a d ρ) λdW=>mJ (b dW S) (sH a b r)
section
variable{X:Cx}{E:XK}{b:Nat}{tg iter:Expr}{body:List Stmt}{fi:Ev->R (List D)}{a:D->aJ->Option aJ}{gb:aJ->aC->aU}{pos:Pos}{e:Expr}{f:K!}
D! CT(fi:Ev->R (List D))(a:D->aJ->Option aJ)(gb:aJ->aC->aU):aJ->aC->aU:=λρ S=>toZ (iC (fi (dB ρ)) S) λds S1=>sH a gb ds ρ S1
T! agR(i:Nat){x:Str}(hN:X.N.Nodup)(hi:X.N[i]?=some x)(hx:Loc X.env.scope x)(hf:V!:=by O!):ZG X (.Name x pos) (hV i):=by
 r!\(_,ade hN hi hx hf,λB al lo H σ ρ S v d Q s rv h=>?_);o!⟨cP,e,q⟩:=h;u! hV at e;by_cases z:i<ρ.length
 ·rw[if_pos z]at e;c! e
  ~q _ (s.set z rv)
 ·rw[if_neg z]at e;c! e
T! agU(hp:PassesOwn M! X.A X.env X.xe)(hc:X.calm=true)(hi:DI X E tg iter fi)(hg:ZG X tg a)(hb:rH X E b body gb)(hs:i!:=by intro _;rfl):
    ZS X E b (.For tg iter body [] pos) (CT fi a gb):=by
 o!⟨wi,pi,ri⟩:=hi;o!⟨g,pg,rg⟩:=hg;o!⟨tb,pb,rb⟩:=hb;r!\(_,adl hp hc pi pg pb hs,λB hb al lo H σ ρ S D s h=>ri _ _ _ _ _ _ _ s.rs (Aft.mono (bj.toAft (k:=λds aG bh H' S'=>fB X.K B E D aG H' (sH a gb ds ρ S')) s (fB.n8 h)) λds H1 s1 h1 J wk=>?_));r!\(λi m nj H2=>∃cI eN mK S2,RZ X.K B cI eN H2 nj mK S2/\Wk X.K cI H2 J ds/\fB X.K B E D cI H2 (sH a gb (ds.drop i) mK S2)/\m=ds.length - i,\(_,al,lo,ρ,S,s.grow s1,wk,h1,rfl),?_)
 rintro i m nj H2 ⟨cI,eN,mK,S2,s2,Ij,h2,rfl⟩
 o!⟨w1,w2⟩:=Ij cI H2 .refl s2.fresh;by_cases hi:i<ds.length
 ·right
  h! ed:ds[i]?=some ds[i]:=List.getElem?_eq_getElem hi;o!⟨go,yl⟩:=w1 i _ ed;rw[List.drop_eq_getElem_cons hi]at h2;r!\(go,λσ' H'=>∃cI eN mK S2,RZ X.K B cI eN H' σ' mK S2/\Wk X.K cI H' J ds/\fB X.K B E D cI H' (sH a gb (ds.drop (i+1)) mK S2),λσ' H' \(xF,Gx,yZ,S3,z1,z2,z3)=>\(ds.length - (i+1),o?,xF,Gx,yZ,S3,z1,z2,z3,rfl),λx H3 y=>?_);o!⟨rfl,rx⟩:=yl x H3 y;u! sH at h2;cases q:a ds[i] mK with
  |some yZ=>
   rw[q]at h2;r! rg _ _ _ _ _ _ _ _ _ _ s2 rx \(yZ,q,λlC s3=>rb _ hb _ _ _ _ _ _ _ s3 (afS (k:=sH a gb (ds.drop (i+1))) h2 λaG bh H' σ' cP S' x' s' h'=>\(aG,bh,cP,S',s',λPK H4 x4=>Ij PK H4 (x'.trans x4),h')))
  |none=>rw[q]at h2;~h2.elim
 ·left
  h! e:ds.drop i=[]:=List.drop_eq_nil_of_le o?;rw[e]at h2;~\(w2 i o?,h2 cI eN H2 nj .refl s2)
end
end P2
namespace P2
open PySem L2
D! bG(n:Nat)(zs:List Z):aJ:=zs.map some++List.replicate (n - zs.length) none
D! bw:aU->RX Z
 |.rt z S=>.ok z S
 |.nx _ S=>.ok (.d .non) S
 |.ex c ns ds S=>.ex c ns ds S
 |_=>.bad
T! aeV{K:W.Frag}{al:Addr->Prop}{lo:Lo}{H:Hp}{S:aC}{vs:List V}{zs:List Z}{N:List Str}(tt:jZ K H)(fr:∀a,H a=none->al a)(st:vH K al lo H S)(r:dZ K al lo H vs zs):RZ K \(H,al,lo,S.length) al lo H (L2.start N vs) (bG N.length zs) S where
 toEZ:=EZ.start (zs:=zs) tt fr st
 len:=by u! L2.start bG;simp[r.length]
 vr:=λi z h=>by
  u! bG at h;by_cases hi:i<zs.length
  ·rw[List.getElem?_append_left (by simpa using hi),List.getElem?_map]at h
   cases q:zs[i]? with
   |none=>rw[q]at h;c! h
   |some y=>
    rw[q]at h;c! h;o!⟨v,e1,e2⟩:=r.get q;r!\(v,?_,e2);u! L2.start;rw[List.getElem?_append_left (by simpa [r.length]using hi),List.getElem?_map,e1];rfl
  ·rw[List.getElem?_append_right (by simpa using hi),List.getElem?_replicate]at h
   split at h<;>c! h
section
variable{P:Program}{w:World}{K:W.Frag}{mg:G!}{base:Heap}
T! nO{x:Str}{st:Stmt}{f:Addr}{fd:FuncData}{N ps:List Str}{k:Nat}{g:Nat->aJ->aC->aU}(F:cF K x x st f fd)(S:b7 N ps (bf st))
    (body:∀(b:Nat) (cdv:Value) (A:Around) (outer:List Env) (s:Shared) (H:Hp) (E:XK),dI k (jK (eE P w) P w K mg base N x (bf st) f cdv A outer s H E).A->rH (jK (eE P w) P w K mg base N x (bf st) f cdv A outer s H E) E b (d7 st) (g b)):
    F! (k+1) f fd ps (bD ps.length K λzs S=>bw (g S.length (bG N.length zs) S)):=by
 r! F.okX S (λvs H Q E h=>h.1) (λcdv A outer s H vs Q E hr h=>?_);o!⟨hl,tt,al,lo,zs,S0,fr,st,rv,h⟩:=h;o!⟨t,p,r⟩:=body S0.length cdv A outer s H E hr;dsimp only at h;r!\(t,p,r \(H,al,lo,S0.length) rfl al lo H (L2.start N vs) (bG N.length zs) S0 _ (aeV tt fr st rv) ?_);cases q:g S0.length (bG N.length zs) S0 with
 |nx ρ S1=>rw[q]at h;~λaG bh H' σ' _ s'=>h aG bh H' .non s'.toEZ .non
 |rt z S1=>rw[q]at h;~h
 |ex c ns es S1=>rw[q]at h;~h
 |bk ρ S1=>rw[q]at h;~h.elim
 |ct ρ S1=>rw[q]at h;~h.elim
 |bad=>rw[q]at h;~h.elim
D! clo:RX Z->R D
 |.ok (.d x) _=>.ok x
 |.ex c ns ds _=>.ex c ns ds
 |_=>.bad
T! aqv{al:Addr->Prop}{H:Hp}:vH K al (λ_=>none) H []:=
 {at':=λ_ _ h=>(by c! h),has:=λn c h _ _=>(by simp at h),na:=λ_ _ h=>(by c! h),inj:=λ_ _ _ h=>(by c! h),tl:=λh=>(by simp at h)}
T! aqr{n:Nat}{F:Z!}{vs:List V}{H:Hp}{Q:VK}{E:XK}(h:bu n K (λds=>clo (F (ds.map .d) [])) vs H Q E):bD n K F vs H Q E:=by
 o!⟨hl,tt,al,ds,fr,rv,h⟩:=h;r!\(hl,tt,al,λ_=>none,ds.map .d,[],fr,aqv,.ofD rv,?_);h! same:∀{aG bh H' S'},EZ K \(H,al,λ_=>none,([]:aC).length) aG bh H' S'->gr K H H':=λe=>\(λb o no hb=>e.fr b o no hb λ_=>nofun,e.hf,λ_=>e.tt);h! sub:∀{aG bh H' S'},EZ K \(H,al,λ_=>none,([]:aC).length) aG bh H' S'->∀a,aG a->al a:=λe a ha=>(e.sb a ha).elim id (fr a);dsimp only at h;cases q:F (ds.map .d) []with
 |bad=>rw[q]at h;~h.elim
 |ex c ns es S1=>rw[q]at h;~λaG bh H' dx e xr=>h dx H' (same e) (xr.mv (.sub (sub e)))
 |ok z S1=>
  rw[q]at h;cases z with
  |loc m=>~h.elim
  |tk ks=>~h.elim
  |d x=>~λaG bh H' v e rv=>h H' (same e) v (Rep.mv (.sub (sub e)) rv)
T! fM.close{k:Nat}{f:Addr}{fd:FuncData}{ps:List Str}{n:Nat}{F:Z!}(h:F! k f fd ps (bD n K F)):F! k f fd ps (bu n K (λds=>clo (F (ds.map .d) []))):=
 h.imp λvs H Q E q=>aqr q
end
D! leave(r:RT)(S:aC):aU:=match r with
 |.rt d=>.rt (.d d) S
 |.ex c ns ds=>.ex c ns ds S
 |_=>.bad
section
variable{X:Cx}{E:XK}{b:Nat}{st:Stmt}{e:Expr}{pos:Pos}
T! CZ{g:Ev->RT}(h:DS X E st g):ZS X E b st (λρ S=>leave (g (dB ρ)) S):=by
 o!⟨t,p,r⟩:=h;r!\(t,p,λB hb al lo H σ ρ S D s h=>r _ _ _ _ _ _ _ s.rs ?_);dsimp only at h;cases q:g (dB ρ)with
 |rt d=>rw[q]at h;~λv H' sm rv=>h al lo H' v (s.toEZ.grow sm) rv
 |ex c ns ds=>rw[q]at h;~λdx H' sm xr=>h al lo H' dx (s.toEZ.grow sm) xr
 |nx _=>rw[q]at h;~h.elim
 |bk _=>rw[q]at h;~h.elim
 |ct _=>rw[q]at h;~h.elim
 |bad=>rw[q]at h;~h.elim
D! u9(fn:Ev->R (List D)):K!:=λρ S=>(iC (fn (dB ρ)) S).bind λds S1=>.ok (.loc S1.length) (S1++[.li (ds.map .d)])
T! Om{fn:Ev->R (List D)}(he:DN X E e fn):ZE X E e (u9 fn):=by
 o!⟨t,p,r⟩:=he;r!\(t,p,λB al lo H σ ρ S Q s h=>r _ _ _ _ _ _ _ s.rs (Aft.mono (bj.toAft s (bj.split h)) λds H1 s1 h1 p vs hp rv=>?_));h! s2:=s.grow s1;h! hc:jX X.K (λb=>al b/\b≠p) (j8 lo S.length p) (upd H1 p (.lst vs)) p (.li (ds.map .d)):=\(vs,gG,dZ.mv (CQ hp) (wj s2.st p) (.ofD rv));~h1 _ _ _ (s2.new hp uD hc nofun) (CQ hp) (wj s2.st p) _ \(p,by u! j8;rw[if_pos rfl],rfl)
end
section
variable{X:Cx}{E:XK}{b:Nat}{e:Expr}{pos:Pos}{f:K!}
D! jb(i:Nat)(f:K!):aJ->aC->aU:=λρ S=>match ρ[i]? with
 |some (some (.loc n))=>(match S[n]? with
  |some (.li _)=>toZ (f ρ S) λz S1=>(match S1[n]? with
   |some (.li zs)=>if zs.length<sizeLine then .nx ρ (S1.set n (.li (zs++[z])))else .bad
   |_=>.bad)
  |_=>.bad)
 |_=>.bad
T! RZ.cell{K:W.Frag}{B:Z0}{al:Addr->Prop}{lo:Lo}{H:Hp}{σ:St}{ρ:aJ}{S:aC}(s:RZ K B al lo H σ ρ S){n:Nat}{a:Addr}(hn:lo n=some a){c:Cell}(h:S[n]?=some c):jX K al lo H a c:=by
 o!⟨c',h1,h2⟩:=s.st.at' n a hn;rw[h]at h1;c! h1;~h2
T! pY(i:Nat){x:Str}{sV apos cpos:Pos}(pa:PlainAttrs "list")(slot:Slot "list" "append" "list.append")(hty:typeOf (.builtin "list.append")=pure (.type "method_descriptor"))(he:ZE X E e f)
    (hN:X.N[i]?=some x:=by rfl)(hv:zm X.env.scope x:=by first|~Or.inl rfl|~Or.inr l!|~Or.inr (Or.inr rfl))(hd:E!:=by decide)
    (hcd:(x==("__classdict__":Str))=false:=by decide)
    (hbase:attributeBase (.Name x sV) "append" X.env (eval (.Name x sV) X.env)=eval (.Name x sV) X.env:=by rfl)
    (hfew:((backTo cpos (starEach [e] X.env)).all (λx=>!x.1)&&(backToKw cpos (keywordEach [] X.env)).all (λx=>x.1.isSome)
      &&decide ([e].length+([]:List Keyword).length+(if([]:List Keyword).isEmpty then 0 else 1)<30))=true:=by rfl)
    (hline:(apos.endLine==cpos.line)=true:=by rfl)(hs:starEach [e] X.env=(false,eval e X.env)::starEach [] X.env:=by rfl)(hplain:(backTo cpos (starEach [] X.env)).any (·.1)=false:=by rfl)
    (hsw:swapsWith (.Call (.Attribute (.Name x sV) "append" apos) [e] [] cpos) none pos.line X.env=pure false:=by rfl):
    ZS X E b (.Expr (.Call (.Attribute (.Name x sV) "append" apos) [e] [] cpos) pos) (jb i f):=by
 o!⟨t,p,r⟩:=he;r!\(_,adk (ac6 pa slot hty acF (Bv hN hv hd hcd) (Mw p Mx hs) hbase hfew hline hs hplain) hsw,λB hb al lo H σ ρ S D s h=>?_);u! jb at h;split at h
 ·rename_i n q
  split at h
  ·rename_i zs0 q0
   o!⟨v,e1,a,hn,rfl⟩:=s.vr i _ q;o!⟨vs,e2,e3⟩:=s.cell hn q0;r!\(_,e1,.inl \(rfl,vs,.inl (.inl e2)),r _ _ _ _ _ _ _ _ s (bj.mono (fB.n8 h) λz bW lo1 H1 S1 s1 x1 y1 h1 u ru=>?_));split at h1
   ·rename_i zs q1
    h! uy:=y1 n a hn;o!⟨ws,g2,g3⟩:=s1.cell uy q1;by_cases w:zs.length<sizeLine
    ·rw[if_pos w]at h1
     h! x2:Xt bW H1 bW (upd H1 a (.lst (ws++[u]))):=λb o _ hb eb=>\(hb,by rw[cD λz=>s1.st.na n a uy (by rw[<-z];~hb)];~eb);o!⟨s2,x3⟩:=s1.write uy (o:=.lst (ws++[u])) (c:=.li (zs++[z])) uD (λq w=>by u! kJ at w;c! w) \(_,gG,dZ.mv x2 .refl (g3.append (.cons ru .nil))) nofun;~\(a,ws,u,rfl,rfl,g2,by rw[g3.length];~w,h1 _ _ _ _ x3 s2)
    ·rw[if_neg w]at h1;~h1.elim
   ·~h1.elim
  ·~h.elim
 ·~h.elim
D! jw(i:Nat):K!:=λρ S=>match ρ[i]? with
 |some (some (.loc n))=>(match S[n]? with
  |some (.li zs)=>(match zs[zs.length - 1]? with
   |some z=>.ok z (S.set n (.li zs.dropLast))
   |none=>.bad)
  |_=>.bad)
 |_=>.bad
T! dZ.dropLast{K:W.Frag}{al:Addr->Prop}{lo:Lo}{H:Hp}{vs:List V}{zs:List Z}(r:dZ K al lo H vs zs):dZ K al lo H vs.dropLast zs.dropLast:=by
 induction r with
 |nil=>~.nil
 |cons a b ih=>
  cases b with
  |nil=>~.nil
  |cons c d=>~.cons a ih
T! pB(i:Nat){x:Str}{sV apos cpos:Pos}(pa:PlainAttrs "list")(slot:Slot "list" "pop" "list.pop")(hty:typeOf (.builtin "list.pop")=pure (.type "method_descriptor"))
    (hN:X.N[i]?=some x:=by rfl)(hv:zm X.env.scope x:=by first|~Or.inl rfl|~Or.inr l!|~Or.inr (Or.inr rfl))(hd:E!:=by decide)
    (hcd:(x==("__classdict__":Str))=false:=by decide)
    (hbase:attributeBase (.Name x sV) "pop" X.env (eval (.Name x sV) X.env)=eval (.Name x sV) X.env:=by rfl)(hline:(apos.endLine==cpos.line)=true:=by rfl):
    ZE X E (.Call (.Attribute (.Name x sV) "pop" apos) [] [] cpos) (jw i):=by
 r!\(_,anL pa slot hty alI (Bv hN hv hd hcd) hbase hline,λB al lo H σ ρ S Q s h=>?_);u! jw at h;split at h
 ·rename_i n q
  split at h
  ·rename_i zs q0
   split at h
   ·rename_i z qz
    o!⟨v,e1,a,hn,rfl⟩:=s.vr i _ q;o!⟨vs,e2,e3⟩:=s.cell hn q0;o!⟨u,e4,e5⟩:=e3.get qz;h! x2:Xt al H al (upd H a (.lst vs.dropLast)):=λb o _ hb eb=>\(hb,by rw[cD λz=>s.st.na n a hn (by rw[<-z];~hb)];~eb);o!⟨s2,x3⟩:=s.write hn (o:=.lst vs.dropLast) (c:=.li zs.dropLast) uD (λq w=>by u! kJ at w;c! w) \(_,gG,dZ.mv x2 .refl e3.dropLast) nofun;r!\(_,e1,.inl \(rfl,vs,.inl (.inl e2)),a,vs,u,rfl,rfl,e2,by rw[e3.length];~e4,h _ _ _ s2 x3 .refl u (e5.mv x3 .refl))
   ·~h.elim
  ·~h.elim
 ·~h.elim
end
end P2
namespace P2
open PySem L2
section
variable{X:Cx}{E:XK}{b:Nat}{e k:Expr}{pos:Pos}{f:K!}{fk:Ev->R D}
end
mutual
noncomputable def gY:D->Bool
 |.lst _=>false
 |.tup ds=>pM ds
 |.exc _ _ _=>false
 |_=>true
noncomputable def pM:List D->Bool
 |[]=>true
 |d::r=>gY d&&pM r
end
D! sX(S:aC):Option Z->Sl
 |some (.d x)=>.sh x
 |some (.loc n)=>(match S[n]? with
  |some (.li zs)=>(match jg zs with
   |some ds=>.sh (.lst ds)
   |none=>.no)
  |_=>.no)
 |_=>.no
D! vw(S:aC)(ρ:aJ):Ev:=ρ.map (sX S)
section
variable{K:W.Frag}{B:Z0}{al:Addr->Prop}{lo:Lo}{H H':Hp}{σ:St}{ρ:aJ}{S:aC}
D! Jr(al:Addr->Prop)(lo:Lo):Addr->Prop:=λa=>al a\/∃n,lo n=some a
T! RZ.rsV(r:RZ K B al lo H σ ρ S):RS K (Jr al lo) H (Jr al lo) H σ (vw S ρ) where
 same:=.refl H
 tt:=r.tt
 fresh:=λa h=>.inl (r.fresh a h)
 sub:=λ_ h=>h
 pf:=λa h=>.inl (r.fresh a h)
 len:=by u! vw;rw[List.length_map];~r.len
 sh:=λi d h=>by
  u! vw at h;rw[List.getElem?_map]at h;o!⟨z,h1,h2⟩:=Option.map_eq_some_iff.mp h;cases z with
  |none=>c! h2
  |some z=>
   o!⟨v,e1,e2⟩:=r.vr i z h1;r!\(v,e1,?_);cases z with
   |d x=>c! h2;~Rep.mv (.sub λ_ h=>.inl h) e2
   |tk ks=>c! h2
   |loc n=>
    u! sX at h2;dsimp only at h2;split at h2
    ·rename_i zs q
     split at h2
     ·rename_i ds qd
      c! h2;h!:=zy qd;subst this;o!⟨a,hn,rfl⟩:=e2;o!⟨vs,g1,g2⟩:=r.cell hn q;~.lst (.inl \(.inr \(n,hn),.inl g1)) (bz.mv (.sub λ_ h=>.inl h) g2.toD)
     ·c! h2
    ·c! h2
 ow:=λi ds h=>by
  u! vw at h;rw[List.getElem?_map]at h;o!⟨z,h1,h2⟩:=Option.map_eq_some_iff.mp h;u! sX at h2;split at h2;·c! h2
  ·split at h2
   ·split at h2<;>c! h2
   ·c! h2
  ·c! h2
 apart:=λi j ds Eh a h _ _ _=>by
  u! vw at h;rw[List.getElem?_map]at h;o!⟨z,h1,h2⟩:=Option.map_eq_some_iff.mp h;u! sX at h2;split at h2;·c! h2
  ·split at h2
   ·split at h2<;>c! h2
   ·c! h2
  ·c! h2
mutual
theorem Rep.gY(na:∀n a,lo n=some a->¬∃vs,Rd H a (.tup vs)):∀{v:V} {d:D},Rep K (Jr al lo) H v d->P2.gY d=true->Rep K al H v d
 |_,_,.non,_=>.non
 |_,_,.bl b,_=>.bl b
 |_,_,.int b,_=>.int b
 |_,_,.str b,_=>.str b
 |_,_,.ty b,_=>.ty b
 |_,_,.ref b,_=>.ref b
 |_,_,.tup p q,h=>.tup (p.elim (λz=>.inl \(z.1.elim id λ\(n,hn)=>absurd \(_,z.2) (na n _ hn),z.2)) .inr) (bz.gY na q h)
 |_,_,.lst p q,h=>by c! h
 |_,_,.exc p1 p2 p3 p4 q,h=>by c! h
 |_,_,.El p1 p2,h=>by c! h
theorem bz.gY(na:∀n a,lo n=some a->¬∃vs,Rd H a (.tup vs)):∀{v:List V} {d:List D},bz K (Jr al lo) H v d->pM d=true->bz K al H v d
 |_,_,.nil,_=>.nil
 |_,_,.cons (d:=d) (ds:=ds) p q,h=>by
  h! h':(P2.gY d&&pM ds)=true:=h;rw[Bool.and_eq_true]at h';~.cons (Rep.gY na p h'.1) (bz.gY na q h'.2)
end
T! RZ.noT(r:RZ K B al lo H σ ρ S):∀n a,lo n=some a->¬∃vs,Rd H a (.tup vs):=λn a hn \(vs,h)=>by
 o!⟨c,_,q⟩:=r.st.at' n a hn;cases c with
 |li zs=>o!⟨ws,g,_⟩:=q;rcases h with h|⟨o,h⟩<;>(rw[g]at h;c! h)
 |ob C fs=>o!⟨dx,ws,g,_⟩:=q;rcases h with h|⟨o,h⟩<;>(rw[g]at h;c! h)
 |dk kvs=>o!⟨ws,g,_⟩:=q;rcases h with h|⟨o,h⟩<;>(rw[g]at h;c! h)
 |dt kvs=>o!⟨ws,g,_⟩:=q;rcases h with h|⟨o,h⟩<;>(rw[g]at h;c! h)
 |no=>~q
 |mk=>~q
end
D! zR(f:Ev->R D):K!:=λρ S=>match f (vw S ρ)with
 |.ok d=>if gY d=true then .ok (.d d) S else .bad
 |_=>.bad
D! gf(f:Ev->R Bool):aJ->aC->RX Bool:=λρ S=>match f (vw S ρ)with
 |.ok d=>.ok d S
 |_=>.bad
section
variable{X:Cx}{E:XK}{b:Nat}{e:Expr}{pos:Pos}
T! ar5{f:Ev->R D}(h:DE X E e f):ZE X E e (zR f):=by
 o!⟨t,p,r⟩:=h;r!\(t,p,λB al lo H σ ρ S Q z h=>r _ _ _ _ _ _ _ z.rsV ?_);u! zR at h;cases q:f (vw S ρ)with
 |bad=>rw[q]at h;~h.elim
 |ex c ns ds=>rw[q]at h;~h.elim
 |ok d=>
  rw[q]at h;dsimp only at h;by_cases w:gY d=true
  ·rw[if_pos w]at h
   ~λH1 s1 v rv=>h al lo H1 (z.grow s1) (.of s1) .refl v (Rep.gY (z.grow s1).noT rv w)
  ·rw[if_neg w]at h;~h.elim
T! vg{f:Ev->R Bool}(h:DT X E e f):ZT X E e (gf f):=by
 o!⟨t,p,r⟩:=h;r!\(t,p,λB al lo H σ ρ S Q z h=>r _ _ _ _ _ _ _ z.rsV ?_);u! gf at h;cases q:f (vw S ρ)with
 |bad=>rw[q]at h;~h.elim
 |ex c ns ds=>rw[q]at h;~h.elim
 |ok d=>rw[q]at h;~λH1 s1=>h al lo H1 (z.grow s1) (.of s1) .refl
end
D! HQ(n:Nat)(d:D):Option Z->Option Z
 |some (.loc m)=>if m=n then some (.d d)else some (.loc m)
 |o=>o
D! qD(n:Nat):Z->Bool
 |.loc m=>decide (m=n)
 |_=>false
D! JG(n:Nat):Cell->Bool
 |.li zs=>zs.any (qD n)
 |.ob _ fs=>fs.any λp=>qD n p.2
 |.dk kvs=>kvs.any λp=>qD n p.2
 |.dt kvs=>kvs.any λp=>qD n p.2
 |.no=>false
 |.mk=>false
D! J1(b i:Nat)(ρ:aJ)(S:aC):Option (aJ×aC):=match ρ[i]? with
 |some (some (.loc n))=>(match S[n]? with
  |some (.li zs)=>(match jg zs with
   |some ds=>if b<=n/\(S.any (JG n))=false then some (ρ.map (HQ n (.lst ds)),S.set n .no)else none
   |none=>none)
  |_=>none)
 |some _=>some (ρ,S)
 |none=>none
section
variable{K:W.Frag}{B:Z0}{al:Addr->Prop}{lo:Lo}{H:Hp}{σ:St}{ρ cP:aJ}{S S':aC}
T! gB.out{aG:Addr->Prop}{bh:Lo}{n:Nat}(x:Xt al H aG H)(y:∀m a,m≠n->lo m=some a->bh m=some a){v:V}{z:Z}(r:gB K al lo H v z)(h:qD n z=false):gB K aG bh H v z:=by
 cases z with
 |d d=>~Rep.mv x r
 |loc m=>o!⟨a,h1,h2⟩:=r;~\(a,y m a (by simpa [qD]using h) h1,h2)
 |tk ks=>o!⟨a,h1,h2,h3⟩:=r;o!⟨g1,g2⟩:=x a (.tup (ks.map kV)) (λ_ h=>nomatch h) h1 h2;~\(a,g1,g2,h3)
T! dZ.out{aG:Addr->Prop}{bh:Lo}{n:Nat}(x:Xt al H aG H)(y:∀m a,m≠n->lo m=some a->bh m=some a){vs:List V}{zs:List Z}(r:dZ K al lo H vs zs)(h:zs.any (qD n)=false):dZ K aG bh H vs zs:=by
 induction r with
 |nil=>~.nil
 |cons a _ ih=>
  rw[List.any_cons,Bool.or_eq_false_iff]at h;~.cons (a.out x y h.1) (ih h.2)
T! dO.out{κ:Type}{aG:Addr->Prop}{bh:Lo}{n:Nat}(x:Xt al H aG H)(y:∀m a,m≠n->lo m=some a->bh m=some a){vs:List (κ×V)}{zs:List (κ×Z)}(r:dO K al lo H vs zs)(h:(zs.any λp=>qD n p.2)=false):dO K aG bh H vs zs:=by
 induction r with
 |nil=>~.nil
 |cons a _ ih=>
  rw[List.any_cons,Bool.or_eq_false_iff]at h;~.cons (a.out x y h.1) (ih h.2)
T! jX.out{aG:Addr->Prop}{bh:Lo}{n:Nat}(x:Xt al H aG H)(y:∀m a,m≠n->lo m=some a->bh m=some a){a:Addr}{c:Cell}(r:jX K al lo H a c)(h:JG n c=false):jX K aG bh H a c:=by
 cases c with
 |li zs=>o!⟨vs,h1,h2⟩:=r;~\(vs,h1,h2.out x y h)
 |ob C fs=>o!⟨dx,us,h1,h2⟩:=r;~\(dx,us,h1,h2.out x y h)
 |dk kvs=>o!⟨us,h1,h2⟩:=r;~\(us,h1,h2.out x y h)
 |dt kvs=>o!⟨us,h1,h2⟩:=r;~\(us,h1,h2.out x y h)
 |no=>~r
 |mk=>~r
T! RZ.freeze(r:RZ K B al lo H σ ρ S){i:Nat}(h:J1 B.n i ρ S=some (cP,S')):∃aG bh,RZ K B aG bh H σ cP S'/\Xt al H aG H/\∀n,ρ[i]?=some (some (.loc n))->∀m a,m≠n->lo m=some a->bh m=some a:=by
 u! J1 at h;split at h
 ·rename_i n q
  split at h
  ·rename_i zs q0
   split at h
   ·rename_i ds qd
    split at h
    ·rename_i w
     c! h;o!⟨v,e1,a,hn,rfl⟩:=r.vr i _ q;h!:=zy qd;subst this;o!⟨vs,g1,g2⟩:=r.cell hn q0;h! hl:n<S.length:=(List.getElem?_eq_some_iff.mp q0).1;h! x:Xt al H (λb=>al b\/b=a) H:=λb o _ hb e=>\(.inl hb,e);h! hB:B.H a=none:=by
      rcases r.nw n a hn with z|z;·~absurd (r.bd n a z) o?
      ·~z.1
     r!\(λb=>al b\/b=a,λm=>if m=n then none else lo m,?_,x,λn' e m b hm hb=>?_);rotate_left;·rw[q]at e;c! e;dsimp only;rw[if_neg hm];~hb
     h! y:∀m b,m≠n->lo m=some b->(λm=>if m=n then none else lo m) m=some b:=λm b hm h=>by dsimp only;rw[if_neg hm];~h
     h! back:∀m b,(if m=n then none else lo m)=some b->m≠n/\lo m=some b:=λm b h=>by
      by_cases z:m=n;·rw[if_pos z]at h;c! h
      ·rw[if_neg z]at h;~\(z,h)
     h! cl:∀c∈S,JG n c=false:=λc hc=>by
      h!:=List.any_eq_false.mp w.2 c hc;simpa using this
     r! {fr:=r.fr,hf:=r.hf,tt:=r.tt,fresh:=λb hb=>.inl (r.fresh b hb),st:=\(λm b hm=>?_,λm c hm hc xY=>?_,λm b hm hb=>?_,λm m' b h1 h2=>?_,λm b u hb hu=>.inl (r.st.tl ?_ b u hb hu)),lx:=λm b hm=>?_,nw:=λm b hm=>r.nw m b (back m b hm).2,bd:=r.bd,sz:=by rw[List.length_set];~r.sz,xt:=r.xt.trans x,sb:=λb hb=>?_,len:=by rw[List.length_map];~r.len,vr:=λj z hz=>?_}
     ·o!⟨z1,z2⟩:=back m b hm
      o!⟨c,k1,k2⟩:=r.st.at' m b z2;~\(c,by rw[List.getElem?_set_ne (Ne.symm z1)];~k1,k2.out x y (cl c (List.mem_of_getElem? k1)))
     ·by_cases z:n=m
      ·subst z
       rw[List.getElem?_set_self hl]at hm;c! hm;~absurd rfl hc
      ·rw[List.getElem?_set_ne z]at hm
       o!⟨b,k⟩:=r.st.has m c hm hc xY;~\(b,by show(if m=n then none else lo m)=some b;rw[if_neg (Ne.symm z)];~k)
     ·o!⟨z1,z2⟩:=back m b hm
      rcases hb with hb|rfl;·~r.st.na m b z2 hb
      ·~z1 (r.st.inj m n _ z2 hn)
     ·~r.st.inj m m' b (back m b h1).2 (back m' b h2).2
     ·by_cases z:n=0
      ·subst z
       rw[List.getElem?_set_self hl]at m;c! m
      ·rw[List.getElem?_set_ne z]at m;~m
     ·h!:=r.bd m b hm
      show(if m=n then none else lo m)=some b;rw[if_neg o?];~r.lx m b hm
     ·rcases hb with hb|rfl
      ·~r.sb b hb
      ·~.inr hB
     ·rw[List.getElem?_map]at hz
      o!⟨o,k1,k2⟩:=Option.map_eq_some_iff.mp hz;cases o with
      |none=>c! k2
      |some z0=>
       o!⟨u,m1,m2⟩:=r.vr j z0 k1;r!\(u,m1,?_);cases z0 with
       |d x0=>c! k2;~Rep.mv x m2
       |tk ks=>c! k2;o!⟨a9,j1,j2,j3⟩:=m2;o!⟨i1,i2⟩:=x a9 (.tup (ks.map kV)) (λ_ h=>nomatch h) j1 j2;~\(a9,i1,i2,j3)
       |loc m=>
        h! k2:(if m=n then some (Z.d (.lst ds))else some (Z.loc m))=some z:=k2;by_cases zz:m=n
        ·rw[if_pos zz]at k2;c! k2
         o!⟨b,k3,rfl⟩:=m2;rw[zz,hn]at k3;c! k3;~.lst (.inl \(.inr rfl,.inl g1)) (bz.mv x g2.toD)
        ·rw[if_neg zz]at k2;c! k2
         o!⟨b,k3,rfl⟩:=m2;~\(b,by dsimp only;rw[if_neg zz];~k3,rfl)
    ·c! h
   ·c! h
  ·c! h
 ·c! h;~\(al,lo,r,.refl,λ_ _ _ _ _ h=>h)
 ·c! h
end
section
variable{X:Cx}{E:XK}{b:Nat}{sts:List Stmt}{st:Stmt}{g:aJ->aC->aU}
D! Oh(b i:Nat)(g:aJ->aC->aU):aJ->aC->aU:=λρ S=>match J1 b i ρ S with
 |some (cP,S')=>g cP S'
 |none=>.bad
T! ar9(i:Nat)(h:ZS X E b st g):ZS X E b st (Oh b i g):=by
 o!⟨t,p,r⟩:=h;r!\(t,p,λB hb al lo H σ ρ S D s h=>?_);u! Oh at h;split at h
 ·rename_i cP S' q
  rw[<-hb]at q;o!⟨aG,bh,s',x,_⟩:=s.freeze q;~r B hb _ _ _ _ _ _ _ s' (fB.ext h x)
 ·~h.elim
end
end P2
namespace L2
open PySem PySem.Spec PyProof.Rows
section
variable{κ:Type}[DecidableEq κ]
D! o9(kvs:List (κ×V))(k:κ):Option V:=(kvs.find? λkv=>decide (kv.1=k)).map (·.2)
D! putK(kvs:List (κ×V))(k:κ)(v:V):List (κ×V):=
 if(kvs.any λkv=>decide (kv.1=k))=true then kvs.map (λkv=>if kv.1=k then(kv.1,v)else kv)else kvs++[(k,v)]
T! X4{p:κ×V}{r:List (κ×V)}{k:κ}(e:p.1=k):o9 (p::r) k=some p.2:=by simp[o9,List.find?_cons,e]
T! X3{p:κ×V}{r:List (κ×V)}{k:κ}(e:¬p.1=k):o9 (p::r) k=o9 r k:=by simp[o9,List.find?_cons,e]
T! agb(k:κ):∀kvs:List (κ×V),(kvs.any λkv=>decide (kv.1=k))=(o9 kvs k).isSome
 |[]=>rfl
 |p::r=>by
  rw[List.any_cons];by_cases e:p.1=k;·S![X4 e,decide_eq_true e,Bool.true_or,Option.isSome_some]
  ·rw[X3 e,decide_eq_false e,Bool.false_or];~agb k r
T! Sx(kvs:List (κ×V))(k:κ)(v:V):(putK kvs k v).length<=kvs.length+1:=by
 u! putK;split;·rw[List.length_map];om
 ·rw[List.length_append,List.length_cons,List.length_nil];om
T! jY.akp{o:Option V}{u:Option Value}(r:jY o u):o.isSome=u.isSome:=by
 cases o with
 |none=>cases u with
  |none=>rfl
  |some _=>~(show False from r).elim
 |some _=>cases u with
  |none=>~(show False from r).elim
  |some _=>rfl
T! KV.val{kvs:List (κ×V)}{vs:List (κ×Value)}(r:KV kvs vs)(k:κ):jY (o9 kvs k) (valueAt vs k):=by
 u! KV at r;induction r with
 |nil=>~True.intro
 |@cons p q ps qs h t ih=>
  o!⟨h1,h2⟩:=h;by_cases e:p.1=k
  ·h! e':q.1=k:=h1.symm.trans e
   h! b:valueAt (q::qs) k=some q.2:=by simp[valueAt,List.find?_cons,e']
   rw[X4 e,b];~h2
  ·h! e':¬q.1=k:=λz=>e (h1.trans z)
   h! b:valueAt (q::qs) k=valueAt qs k:=by simp[valueAt,List.find?_cons,e']
   rw[X3 e,b];~ih
T! KV.any{kvs:List (κ×V)}{vs:List (κ×Value)}(r:KV kvs vs)(k:κ):(kvs.any λkv=>decide (kv.1=k))=vs.any λkv=>decide (kv.1=k):=by
 u! KV at r;induction r with
 |nil=>rfl
 |cons h t ih=>rw[List.any_cons,List.any_cons,ih,h.1]
T! KV.VD{kvs:List (κ×V)}{vs:List (κ×Value)}(r:KV kvs vs)(k:κ){y:V}{u:Value}(ry:RelV y u):
    KV (kvs.map λkv=>if kv.1=k then(kv.1,y)else kv) (vs.map λkv=>if kv.1=k then(kv.1,u)else kv):=by
 u! KV at r⊢;induction r with
 |nil=>~.nil
 |@cons p q ps qs h t ih=>
  rw[List.map_cons,List.map_cons];r! .cons ?_ ih;o!⟨h1,h2⟩:=h;by_cases e:p.1=k;·rw[if_pos e,if_pos (h1.symm.trans e)];~\(h1,ry)
  ·rw[if_neg e,if_neg (λz=>e (h1.trans z))];~\(h1,h2)
T! KV.put{kvs:List (κ×V)}{vs:List (κ×Value)}(r:KV kvs vs)(k:κ){y:V}{u:Value}(ry:RelV y u):KV (putK kvs k y) (stored vs k u):=by
 u! putK stored;rw[r.any k];by_cases e:(vs.any λkv=>decide (kv.1=k))=true;·rw[if_pos e,if_pos e];~r.VD k ry
 ·rw[if_neg e,if_neg e];~Paired.snoc r \(rfl,ry)
T! KV.length{kvs:List (κ×V)}{vs:List (κ×Value)}(r:KV kvs vs):kvs.length=vs.length:=Paired.length r
end
T! Lr{P:Program}{w:World}{k:Key}{u:Value}(r:RelV (kV k) u):(my P w).is k u=true:=by
 cases k with
 |inl i=>o!⟨t,e⟩:=(show∃t,u=Value.int i t from r);subst e;~alC P w i t
 |inr x=>o!⟨t,e⟩:=(show∃t,u=Value.str x t from r);subst e;~alD P w x t
T! abU{P:Program}{w:World}:∀{ks:List Key} {us:List Value},Vals (ks.map kV) us->ItemsAre (my P w) ks us
 |[],_,r=>by rw[List.map_nil]at r;c! r;~.nil
 |k::ks,_,r=>by
  rw[List.map_cons]at r;cases r with
  |cons h t=>~.cons (Lr h) (abU t)
A! KT(H:Hp):List (List Key×V)->List (List Key×Addr×Value)->Prop:=Paired λp q=>p.1=q.1/\H q.2.1=some (.tup (p.1.map kV))/\RelV p.2 q.2.2
T! KT.val{H:Hp}{kvs:List (List Key×V)}{xs:List (List Key×Addr×Value)}(r:KT H kvs xs)(k:List Key):jY (o9 kvs k) ((atKey xs k).map (·.2)):=by
 induction r with
 |nil=>~True.intro
 |@cons p q ps qs h t ih=>
  o!⟨h1,_,h2⟩:=h;by_cases e:p.1=k
  ·h! e':q.1=k:=h1.symm.trans e
   h! b:atKey (q::qs) k=some q.2:=by simp[atKey,List.find?_cons,e']
   rw[X4 e,b];~h2
  ·h! e':¬q.1=k:=λz=>e (h1.trans z)
   h! b:atKey (q::qs) k=atKey qs k:=by simp[atKey,List.find?_cons,e']
   rw[X3 e,b];~ih
T! KT.VD{H:Hp}{kvs:List (List Key×V)}{xs:List (List Key×Addr×Value)}(r:KT H kvs xs)(k:List Key){y:V}{u:Value}(ry:RelV y u):
    KT H (kvs.map λkv=>if kv.1=k then(kv.1,y)else kv) (xs.map (putAt k u)):=by
 induction r with
 |nil=>~.nil
 |@cons p q ps qs h t ih=>
  rw[List.map_cons,List.map_cons];r! .cons ?_ ih;o!⟨h1,h2,h3⟩:=h;u! putAt;by_cases e:p.1=k;·rw[if_pos e,if_pos (h1.symm.trans e)];~\(h1,h2,ry)
  ·rw[if_neg e,if_neg (λz=>e (h1.trans z))];~\(h1,h2,h3)
T! KT.put{H:Hp}{kvs:List (List Key×V)}{xs:List (List Key×Addr×Value)}(r:KT H kvs xs)(k:List Key){b:Addr}{y:V}{u:Value}(hb:H b=some (.tup (k.map kV)))(ry:RelV y u):
    KT H (putK kvs k y) (storedH xs k b u):=by
 h! e:(kvs.any λkv=>decide (kv.1=k))=(atKey xs k).isSome:=by
  rw[agb,(r.val k).akp,Option.isSome_map]
 u! putK storedH;rw[e];by_cases q:(atKey xs k).isSome=true;·rw[if_pos q,if_pos q];~r.VD k ry
 ·rw[if_neg q,if_neg q];~Paired.snoc r \(rfl,hb,ry)
T! KT.keeps{H H':Hp}{kvs:List (List Key×V)}{xs:List (List Key×Addr×Value)}(r:KT H kvs xs)(ht:∀b ys,H b=some (.tup ys)->H' b=some (.tup ys)):KT H' kvs xs:=
 Paired.jR r λ_ _ z=>\(z.1,ht _ _ z.2.1,z.2.2)
section
variable{P:Program}{w:World}{H:Hp}{h:Heap}{a:Addr}
T! aeK{u:HO}(ok:fG P w H h)(e:Rd H a u):ir P w H h a u:=e.ok ok
T! QQ{kvs:List (Key×V)}(ok:fG P w H h)(e:Rd H a (.dK kvs)):kvs.length<=sizeLine/\(a==sysModules)=false/\∃vs,KV kvs vs/\h.DictOf (my P w) a vs:=
 show ir P w H h a (.dK kvs)from aeK ok e
T! aaY{kvs:List (Key×V)}(ok:fG P w H h)(e:H a=some (.dK kvs)):kvs.length<=sizeLine/\(a==sysModules)=false/\∃vs,KV kvs vs/\h.DictOf (my P w) a vs:=QQ ok (.inl e)
T! Sh{ks:List Key}(ok:fG P w H h)(e:H a=some (.tup (ks.map kV))):(tupleKind (my P w)).is h ks a:=by
 o!⟨_,its,r,o,h1,h2,n,h3⟩:=(show ir P w H h a (.tup (ks.map kV))from ok a _ e);~\(o,its.toArray,n,h1,h2,h3,by simpa using abU r)
T! QW{kvs:List (List Key×V)}(ok:fG P w H h)(e:Rd H a (.dT kvs)):kvs.length<=sizeLine/\(a==sysModules)=false/\
    ∃xs,KT H kvs xs/\h.DictOfH (tupleKind (my P w)) a xs:=by
 o!⟨z,y,xs,r,o,es,ep,h1,h2,h3,h4,h5⟩:=(show ir P w H h a (.dT kvs)from aeK ok e);r!\(z,y,xs,r,o,es,ep,h1,h2,h3,h4,λx hx=>?_,h5);h! all:∀{l:List (List Key×V)} {m:List (List Key×Addr×Value)},KT H l m->∀x∈m,(tupleKind (my P w)).is h x.1 x.2.1:=by
  intro l m q;induction q with
  |nil=>intro x hx;~nomatch hx
  |@cons p q ps qs hq t ih=>
   intro x hx;rcases List.mem_cons.mp hx with e|hx
   ·subst e
    ~Sh ok (by rw[<-hq.1];~hq.2.1)
   ·~ih x hx
 ~all r x hx
T! ai0{kvs:List (List Key×V)}(ok:fG P w H h)(e:H a=some (.dT kvs)):kvs.length<=sizeLine/\(a==sysModules)=false/\
    ∃xs,KT H kvs xs/\h.DictOfH (tupleKind (my P w)) a xs:=QW ok (.inl e)
end
D! Dc(H:Hp)(a:Addr)(y:V)(r:Option V):Prop:=
 (∃kvs k,Rd H a (.dK kvs)/\y=kV k/\r=o9 kvs k)\/∃kvs k b,Rd H a (.dT kvs)/\y=.ref b/\H b=some (.tup (k.map kV))/\r=o9 kvs k
D! Io(H:Hp)(a:Addr)(y v:V)(H':Hp):Prop:=
 (∃kvs k,H a=some (.dK kvs)/\y=kV k/\kvs.length<sizeLine/\H'=upd H a (.dK (putK kvs k v)))\/
 ∃kvs k b,H a=some (.dT kvs)/\y=.ref b/\H b=some (.tup (k.map kV))/\kvs.length<sizeLine/\H'=upd H a (.dT (putK kvs k v))
T! Dc.k{H:Hp}{a:Addr}{kvs:List (Key×V)}{k:Key}(e:H a=some (.dK kvs)):Dc H a (kV k) (o9 kvs k):=.inl \(kvs,k,.inl e,rfl,rfl)
T! Io.k{H:Hp}{a:Addr}{kvs:List (Key×V)}{k:Key}{v:V}(e:H a=some (.dK kvs))(hl:kvs.length<sizeLine):Io H a (kV k) v (upd H a (.dK (putK kvs k v))):=.inl \(kvs,k,e,rfl,hl,rfl)
section
variable{X:Cx}{pins:L!}{σ:St}{H:Hp}{s:Shared}{a:Addr}{y v:V}{u r:Value}{o:Option V}{A:Around}{E:B!}
T! Inv.big(I:I!):sysModules<s.heap.objs.size:=by
 h! h:mainGlobals<s.heap.objs.size:=(I.mod.glob.keeps I.bk).lt;~Nat.lt_trans d? h
T! aiH{Q:B!}(hu:A.units+1<cLine)(I:I!)(g:Dc H a y (some v))(ry:RelV y u)(h:∀w' s',Inv X pins σ H s'->RelV v w'->Q w' s'):
    wpAny M! A (getItem (.ref a) u) Q E s:=by
 rcases g with⟨kvs,k,e,ey,l⟩|⟨kvs,k,b,e,ey,eb,l⟩
 ·subst ey
  o!⟨z,hd,vs,rel,dd⟩:=QQ I.hok e;o!⟨w',hw,lQ⟩:=jY.some_of (v:=v) (o:=valueAt vs k) (by rw[l];~rel.val k);~wpAny_getItem_of (Lr ry) dd.mapOf hw (h w' _ (I.tok _) lQ)
 ·subst ey
  cases(show u=Value.ref b from ry);o!⟨z,hd,xs,rel,dd⟩:=QW I.hok e;o!⟨w',hw,lQ⟩:=jY.some_of (v:=v) (o:=(atKey xs k).map (·.2)) (by rw[l];~rel.val k);o!⟨p,hp,Gp⟩:=Option.map_eq_some_iff.mp hw;r! wpAny_getItem_heap (tupleKind_room_in1 hu) (Sh I.hok eb) dd hp ?_;rw[Gp];~h w' _ (I.tok _) lQ
T! QH{h':Heap}{t':Nat}{ob:HO}(I:I!)(mu:Dr (H a))(hs:Heap.SameBut a s.heap h')(he:∃q,h'.get? a=some q)(new:ir X.prog X.w (upd H a ob) h' a ob):
    Inv X pins σ (upd H a ob) {s with heap:=h',toks:=t'}:=
 I.write (x:=a) (e:=a) mu (.inl rfl) (λb q hb z=>(hs.2 b hb).trans z) he new
T! aaX{P:Program}{w:World}{H':Hp}{h':Heap}{kvs:List (Key×V)}{vs:List (Key×Value)}(z:kvs.length<=sizeLine)(hd:(a==sysModules)=false)(rel:KV kvs vs)(dd:h'.DictOf (my P w) a vs):
    ir P w H' h' a (.dK kvs):=\(z,hd,vs,rel,dd)
T! aiI{H':Hp}{Q:Unit->Shared->Prop}(hu:A.units+1<cLine)(I:I!)(g:Io H a y v H')(ry:RelV y u)(rv:RelV v r)(h:∀s',Inv X pins σ H' s'->Q () s'):
    wpAny M! A (setItem (.ref a) u r) Q E s:=by
 rcases g with⟨kvs,k,e,ey,l,eH⟩|⟨kvs,k,b,e,ey,eb,l,eH⟩
 ·subst ey eH
  o!⟨z,hd,vs,rel,dd⟩:=aaY I.hok e;h! hz:vs.length<=sizeLine:=by rw[<-rel.length];~z
  h! hl:(putK kvs k v).length<=sizeLine:=by h!:=Sx kvs k v;om
  r! wpAny_setItem_pairs (hsz:=hz) (Lr ry) dd λh' rR hs=>h _ ?_;h! he:∃q,h'.get? a=some q:=let\(q,_,_,hq,_):=rR;\(q,hq);~QH I (by rw[e];~True.intro) hs he (aaX hl hd (rel.put k rv) rR)
 ·subst ey eH
  cases(show u=Value.ref b from ry);o!⟨z,hd,xs,rel,dd⟩:=ai0 I.hok e;h! hz:xs.length<=sizeLine:=by rw[<-Paired.length rel];~z
  h! hl:(putK kvs k v).length<=sizeLine:=by h!:=Sx kvs k v;om
  r! wpAny_setItem_heap (hsz:=hz) (tupleKind_room_in1 hu) (Sh I.hok eb) dd λh' rR hs=>h _ ?_;o!⟨q,es,ep,hq,h2,h3,h4,_,h5⟩:=rR;r! QH I (by rw[e];~True.intro) hs \(q,hq) \(hl,hd,_,(rel.put k eb rv).keeps λc ys ec=>?_,q,es,ep,hq,h2,h3,h4,h5);rw[cD (alQ ec e (λz=>nomatch z))];~ec
end
section
variable{X:Cx}{pins:L!}{σ:St}{H:Hp}{s:Shared}{a:Addr}{kvs:List (Key×V)}{k:Key}{u:Value}{A:Around}{E:B!}
end
D! Pb(i:Expr):Prop:=∀ov iv,subscripted i false ov iv=operate [ov,iv] (getItem ov iv)
T! aqD{prog:Program}{w:World}{A:Around}{E:B!}{s:Shared}{env:Env}{value slice:Expr}{pos:Pos}{T id:String}{Q:B!}
    (hl:typeLookup (.type T) "__getitem__"=pure (some (.builtin id)))(hs:Pb slice)
    (h:wpAny N! A (eval value env) (λo s₁=>wpAny N! A (eval slice env) (λi s₂=>s₂.TypeIs o T/\wpAny N! A (getItem o i) Q E s₂) E s₁) E s):
    wpAny N! A (eval (.Subscript value slice pos) env) Q E s:=by
 r! Subscript_ (wpAny_mono h (λo s₁ wg=>wpAny_mono wg (λi s₂ Gr=>?_) λ_ _ x=>x) λ_ _ x=>x);o!⟨hT,Gr⟩:=Gr;u! subscriptTail;r! wpAny_bind ?_;rw[getitemInPython_of_ne hT.not_modules];r! wpAny_bind (wpAny_specialOf hT hl ?_);h! fin:wpAny N! A (subscripted slice false o i) (λr wM=>wpAny N! A (letTemporaryGo value o r>>=λ_=>pure r) Q E wM) E s₂:=by
  rw[hs o i];~wpAny_operating (wpAny_mono Gr (λr wM Lj=>wpAny_bind (wpAny_letTemporaryGo (wpAny_pure Lj))) λ_ _ x=>x)
 first
  |~wpAny_pure (wpAny_bind fin)
  |~wpAny_bind (wpAny_pure (wpAny_bind fin))
  |~wpAny_bind fin
T! aiO{X:Cx}{pins:L!}{σ:St}{H:Hp}{s:Shared}{a:Addr}{y:V}{o:Option V}(I:I!)(g:Dc H a y o):s.TypeIs (.ref a) "dict":=by
 rcases g with⟨kvs,k,e,_,_⟩|⟨kvs,k,b,e,_,_,_⟩
 ·o!⟨_,_,vs,_,dd⟩:=QQ I.hok e
  ~dd.typeIs
 ·o!⟨_,_,xs,_,dd⟩:=QW I.hok e
  ~dd.typeIs
D! aqJ(td ty:TE):TE:=λσ H Q=>td σ H λx H1=>ty σ H1 λy H2=>∃a v,x=.ref a/\Dc H2 a y (some v)/\Q v H2
D! apq(td ty tv:TE):TS:=λD σ H=>tv σ H λv H1=>td σ H1 λx H2=>ty σ H2 λy H3=>∃a H4,x=.ref a/\Io H3 a y v H4/\D.nx σ H4
section
variable{X:Cx}{o i e value:Expr}{pos pos' N7:Pos}{td ty tv:TE}
T! anQ(hu:X.A.units+1<cLine)(ho:PE X o td)(hi:PE X i ty)(hs:Pb i):PE X (.Subscript o i pos) (aqJ td ty):=by
 intro pins s σ H Q I h;r! aqD PySem.F.slot_dict_getitem.lookup hs (bM (ho pins s σ H _ I h) λu s1 \(x,H1,I1,rx,q1)=>bM (hi pins s1 σ H1 _ I1 q1) λiv s2 \(y,H2,I2,ry,a,v,ex,g,q2)=>?_);subst ex;obtain rfl:u=Value.ref a:=rx;~\(aiO I2 g,aiH hu I2 g ry λw' s3 I3 lQ=>\(v,H2,I3,lQ,q2))
T! aoq(hu:X.A.units+1<cLine)(ho:PE X o td)(hi:PE X i ty)(hv:PE X value tv)(hs:swapsWith value (some (.Subscript o i pos')) pos.line X.env=pure false):
    PS X (.Assign [.Subscript o i pos'] value pos) (apq td ty tv):=by
 intro pins s σ H D I h;r! wpAny_Assign_Subscript (bM (hv pins s σ H _ I h) λr s1 \(v,H1,I1,rv,q1)=>bM (ho pins s1 σ H1 _ I1 q1) λu s2 \(x,H2,I2,rx,q2)=>bM (hi pins s2 σ H2 _ I2 q2) λiv s3 \(y,H3,I3,ry,a,H4,ex,g,q3)=>?_) hs;subst ex;obtain rfl:u=Value.ref a:=rx;~aiI hu I3 g ry rv λs4 I4=>\(σ,H4,I4,q3)
end
T! aiQ{P:Program}{w:World}{H:Hp}(h:Heap)(hb:sysModules<h.objs.size):ir P w H (h.push {cls:=.type "dict",data:=.dict #[]}) h.objs.size (.dK []):=
 \(Nat.zero_le _,beq_eq_false_iff_ne.mpr (Ne.symm (Nat.ne_of_lt hb)),[],.nil,Heap.DictOf.new h)
section
variable{X:Cx}{pos:Pos}
end
D! NP:List (TE×TE)->St->Hp->(List (V×V)->Hp->Prop)->Prop
 |[],_,H,Q=>Q [] H
 |(tk,tv)::r,σ,H,Q=>tk σ H λx H1=>tv σ H1 λy H2=>NP r σ H2 λps H3=>Q ((x,y)::ps) H3
A! VV:List (V×V)->List (Value×Value)->Prop:=Paired λp q=>RelV p.1 q.1/\RelV p.2 q.2
D! Ds(X:Cx)(pos:Pos)(keys:List (Option Expr))(values:List Expr)(oE:List (TE×TE)):Prop:=
 ∀(pins:L!) (s:Shared) (σ:St) (H:Hp) (Q:List (V×V)->Hp->Prop),I!->NP oE σ H Q->
  wpAny M! X.A (evalPairs (pairTrees keys values X.env pos)) (λvs s'=>∃ps H',Inv X pins σ H' s'/\VV ps vs/\Q ps H') X.xe s
T! aon{X:Cx}{pos:Pos}:Ds X pos [] [] []:=λpins s σ H Q I h=>pairTrees_nil_walk \([],H,I,.nil,h)
T! aom{X:Cx}{pos:Pos}{k v:Expr}{ks:List (Option Expr)}{vs:List Expr}{tk tv:TE}{oE:List (TE×TE)}(hk:PE X k tk)(hv:PE X v tv)(hr:Ds X pos ks vs oE):
    Ds X pos (some k::ks) (v::vs) ((tk,tv)::oE):=λpins s σ H Q I h=>
 pairTrees_cons_walk (bM (hk pins s σ H _ I h) λu s1 \(x,H1,I1,rx,q1)=>bM (hv pins s1 σ H1 _ I1 q1) λw2 s2 \(y,H2,I2,ry,q2)=>
  bM (hr pins s2 σ H2 _ I2 q2) λws s3 \(ps,H3,I3,rel,q3)=>\((x,y)::ps,H3,I3,.cons \(rx,ry) rel,q3))
D! wu(kvs more:List (Key×V)):List (Key×V):=more.foldl (λacc kv=>putK acc kv.1 kv.2) kvs
T! KV.merge:∀{more:List (Key×V)} {rs:List (Key×Value)} {kvs:List (Key×V)} {vs:List (Key×Value)},KV more rs->KV kvs vs->KV (wu kvs more) (merged vs rs):=by
 intro more rs kvs vs r;u! KV at r;induction r generalizing kvs vs with
 |nil=>intro q;~q
 |@cons p q ps qs h t ih=>
  intro r0;h! e:KV (putK kvs p.1 p.2) (stored vs q.1 q.2):=by
   h!:=r0.put p.1 h.2;rw[<-h.1];~this
  ~ih e
T! acf:∀(more kvs:List (Key×V)),(wu kvs more).length<=kvs.length+more.length
 |[],kvs=>by show kvs.length<=kvs.length+0;om
 |p::r,kvs=>by
  h! h1:=acf r (putK kvs p.1 p.2);h! h2:=Sx kvs p.1 p.2;show(wu (putK kvs p.1 p.2) r).length<=_;rw[List.length_cons];om
T! aaB{P:Program}{w:World}:∀{kvs:List (Key×V)} {ws:List (Value×Value)},VV (kvs.map λkv=>(kV kv.1,kv.2)) ws->∃rs,Carries (my P w) ws rs/\KV kvs rs
 |[],_,r=>by rw[List.map_nil]at r;c! r;~\([],True.intro,.nil)
 |p::kvs,_,r=>by
  rw[List.map_cons]at r;cases r with
  |@cons a b as bs h t=>
   o!⟨rs,c,q⟩:=aaB (P:=P) (w:=w) t;o!⟨b1,b2⟩:=b;~\((p.1,b2)::rs,\(Lr h.1,rfl,c),.cons \(rfl,h.2) q)
D! aqK(oE:List (TE×TE)):TE:=λσ H Q=>∀p,H p=none->NP oE σ (upd H p (.dK [])) λps H2=>H2 p=some (.dK [])/\∃kvs:List (Key×V),ps=kvs.map (λkv=>(kV kv.1,kv.2))/\kvs.length<=15/\Q (.ref p) (upd H2 p (.dK (wu [] kvs)))
T! anR{X:Cx}{pos:Pos}{keys:List (Option Expr)}{values:List Expr}{oE:List (TE×TE)}(h:Ds X pos keys values oE)(hall:keys.all (·.isSome)=true)(hl:keys.length=values.length)(h0:keys≠[])
    (h15:keys.length<=15):PE X (.Dict keys values pos) (aqK oE):=by
 intro pins s σ H Q I q;h! hn:=I.hok.fresh (Nat.le_refl s.heap.objs.size);h! I1:=I.laid (a:=s.heap.objs.size) (o:=.dK []) (h':=s.heap.push {cls:=.type "dict",data:=.dict #[]}) (t':=s.toks) (λ_ _ q=>Heap.get?_push_of_some _ q) n! (aiQ s.heap I.big);r! wpAny_Dict_walk (knd:=my X.prog X.w) hall hl h0 h15 (bM (h pins _ σ _ _ I1 (q _ hn)) λws s2 \(ps,H2,I2,rel,e,kvs,ep,lk,q2)=>?_);subst ep;o!⟨rs,c,rk⟩:=aaB (P:=X.prog) (w:=X.w) rel;o!⟨z,hd,vs0,r0,dd⟩:=aaY I2.hok e;c! r0;r!\(rs,c,dd,λh' rR hs=>\(.ref s.heap.objs.size,_,?_,rfl,q2));h! hz:(wu [] kvs).length<=sizeLine:=by
  h! h1:=acf kvs [];rw[List.length_nil]at h1;rw[sizeLine_eq];om
 h! he:∃q,h'.get? s.heap.objs.size=some q:=let\(q,_,_,hq,_):=rR;\(q,hq);~QH I2 (by rw[e];~True.intro) hs he (aaX hz hd (rk.merge .nil) rR)
structure M1(X:Cx)(o:Expr)(m:Str)(apos:Pos)(e:Expr)(cpos:Pos):Prop where
 base:attributeBase o m X.env (eval o X.env)=eval o X.env
 few:((backTo cpos (starEach [e] X.env)).all (λx=>!x.1)&&(backToKw cpos (keywordEach [] X.env)).all (λx=>x.1.isSome)
  &&decide (([e]:List Expr).length+([]:List Keyword).length+(if([]:List Keyword).isEmpty then 0 else 1)<30))=true
 line:(apos.endLine==cpos.line)=true
 trees:backTo cpos (starEach [e] X.env)=[(false,eval e X.env)]
structure M2(X:Cx)(o:Expr)(m:Str)(apos:Pos)(e f:Expr)(cpos:Pos):Prop where
 base:attributeBase o m X.env (eval o X.env)=eval o X.env
 few:((backTo cpos (starEach [e,f] X.env)).all (λx=>!x.1)&&(backToKw cpos (keywordEach [] X.env)).all (λx=>x.1.isSome)
  &&decide (([e,f]:List Expr).length+([]:List Keyword).length+(if([]:List Keyword).isEmpty then 0 else 1)<30))=true
 line:(apos.endLine==cpos.line)=true
 trees:backTo cpos (starEach [e,f] X.env)=[(false,eval e X.env),(false,eval f X.env)]
section
variable{X:Cx}{pins:L!}{σ:St}{H:Hp}{s:Shared}{a:Addr}{y d:V}{u r:Value}{o:Option V}{A:Around}{E:B!}
end
section
variable{X:Cx}{o e f:Expr}{apos cpos:Pos}{td ty tx:TE}
end
section
variable{X:Cx}{pins:L!}{σ:St}{H:Hp}{s:Shared}{a:Addr}{kvs:List (Key×V)}{A:Around}{E:B!}
end
section
variable{X:Cx}{pins:L!}{σ:St}{H:Hp}{s:Shared}{a:Addr}{y:V}{u:Value}{A:Around}{E:B!}
end
end L2
namespace P2
open PySem L2
section
variable{κ:Type}[DecidableEq κ]{K:W.Frag}{al:Addr->Prop}{lo:Lo}{H:Hp}
D! valZ(kvs:List (κ×Z))(k:κ):Option Z:=(kvs.find? λkv=>decide (kv.1=k)).map (·.2)
D! Hc(kvs:List (κ×Z))(k:κ)(v:Z):List (κ×Z):=
 if(kvs.any λkv=>decide (kv.1=k))=true then kvs.map λkv=>if kv.1=k then(kv.1,v)else kv else kvs++[(k,v)]
T! dO.val{us:List (κ×V)}{zs:List (κ×Z)}(r:dO K al lo H us zs){k:κ}{z:Z}(h:valZ zs k=some z):∃v,o9 us k=some v/\gB K al lo H v z:=by
 induction r with
 |nil=>c! h
 |@cons k' v z' vs zs a _ ih=>
  u! valZ at h;u! o9;rw[List.find?_cons]at h⊢;by_cases e:k'=k
  ·S![e,decide_true]at h⊢
   c! h;~\(v,rfl,a)
  ·S![e,decide_false]at h⊢
   ~ih h
T! dO.length{us:List (κ×V)}{zs:List (κ×Z)}(r:dO K al lo H us zs):us.length=zs.length:=by
 induction r with
 |nil=>rfl
 |cons _ _ ih=>rw[List.length_cons,List.length_cons,ih]
T! dO.any{us:List (κ×V)}{zs:List (κ×Z)}(r:dO K al lo H us zs)(k:κ):(us.any λkv=>decide (kv.1=k))=zs.any λkv=>decide (kv.1=k):=by
 induction r with
 |nil=>rfl
 |cons _ _ ih=>rw[List.any_cons,List.any_cons,ih]
T! dO.put{us:List (κ×V)}{zs:List (κ×Z)}(r:dO K al lo H us zs)(k:κ){v:V}{z:Z}(q:gB K al lo H v z):dO K al lo H (putK us k v) (Hc zs k z):=by
 u! putK Hc;rw[r.any k];split
 ·rename_i hh
  clear hh;induction r with
  |nil=>~.nil
  |@cons k' v' z' vs zs a _ ih=>
   rw[List.map_cons,List.map_cons];by_cases e:k'=k
   ·S![e,if_true]
    ~.cons q ih
   ·S![e,if_false]
    ~.cons a ih
 ·rename_i hh
  clear hh;induction r with
  |nil=>~.cons q .nil
  |cons a _ ih=>~.cons a ih
end
D! Sg:D->Option Key
 |.int i=>some (.inl i)
 |.str x=>some (.inr x)
 |_=>none
T! ab2{K:W.Frag}{al:Addr->Prop}{H:Hp}{v:V}{d:D}{k:Key}(r:Rep K al H v d)(h:Sg d=some k):v=kV k:=by
 cases r with
 |int i=>c! h;rfl
 |str i=>c! h;rfl
 |_=>c! h
D! gq(fo:K!)(fk:Ev->R D):K!:=λρ S=>(fo ρ S).bind λz S1=>(iC (fk (dB ρ)) S1).bind λd S2=>match z,Sg d with
 |.loc n,some k=>(match S2[n]? with
  |some (.dk kvs)=>(match valZ kvs k with
   |some z=>.ok z S2
   |none=>.bad)
  |_=>.bad)
 |_,_=>.bad
D! uY(fo:K!)(fk:Ev->R D)(f:K!):aJ->aC->aU:=λρ S=>toZ (f ρ S) λv S0=>toZ (fo ρ S0) λz S1=>toZ (iC (fk (dB ρ)) S1) λd S2=>match z,Sg d with
 |.loc n,some k=>(match S2[n]? with
  |some (.dk kvs)=>if kvs.length<sizeLine then .nx ρ (S2.set n (.dk (Hc kvs k v)))else .bad
  |_=>.bad)
 |_,_=>.bad
D! wX(f:K!):K!:=λρ S=>(f ρ S).bind λz S1=>match z with
 |.loc n=>(match S1[n]? with
  |some (.li zs)=>.ok (.d (.int zs.length)) S1
  |_=>.bad)
 |_=>.bad
section
variable{X:Cx}{E:XK}{b:Nat}{o k e:Expr}{fo f:K!}{fk:Ev->R D}{pos:Pos}
T! Tg{l:List (Key×V)}:NT (.dK l):=λ_ h=>nomatch h
T! q8(hu:X.A.units+64<cLine)(ho:ZE X E o fo)(hk:DE X E k fk)(hs:Pb k:=by ~λ_ _=>rfl):ZE X E (.Subscript o k pos) (gq fo fk):=by
 o!⟨to,po,ro⟩:=ho;o!⟨tk,pk,rk⟩:=hk;r!\(_,anQ o? po pk hs,λB al lo H σ ρ S Q s h=>ro _ _ _ _ _ _ _ _ s (bj.mono (bj.split h) λz bW lo1 H1 S1 s1 x1 y1 h1 v rv=>rk _ _ _ _ _ _ _ s1.rs (Aft.mono (bj.toAft s1 (bj.split h1)) λd H2 s2 h2 u ru=>?_)));h! s3:=s1.grow s2;split at h2
 ·rename_i n k0 xZ
  split at h2
  ·rename_i kvs q
   split at h2
   ·rename_i z0 q0
    o!⟨a,hn,rfl⟩:=rv;h! ek:=ab2 ru xZ;subst ek;o!⟨us,g1,g2⟩:=s3.cell hn q;o!⟨w,e1,e2⟩:=g2.val q0;r!\(a,w,rfl,?_,h2 bW lo1 H2 s3 .refl .refl w e2);rw[<-e1];~.k g1
   ·~h2.elim
  ·~h2.elim
 ·~h2.elim
T! agT{pos':Pos}(hu:X.A.units+64<cLine)(ho:ZE X E o fo)(hk:DE X E k fk)(hv:ZE X E e f)(hs:swapsWith e (some (.Subscript o k pos')) pos.line X.env=pure false:=by rfl):
    ZS X E b (.Assign [.Subscript o k pos'] e pos) (uY fo fk f):=by
 o!⟨to,po,ro⟩:=ho;o!⟨tk,pk,rk⟩:=hk;o!⟨tv,pv,rv⟩:=hv;r!\(_,aoq o? po pk pv hs,λB hb al lo H σ ρ S D s h=>rv _ _ _ _ _ _ _ _ s (bj.mono (fB.n8 h) λy al0 lo0 H0 S0 s0 x0 y0 h0 v0 r0=>ro _ _ _ _ _ _ _ _ s0 (bj.mono (fB.n8 h0) λz bW lo1 H1 S1 s1 x1 y1 h1 v1 r1=>rk _ _ _ _ _ _ _ s1.rs (Aft.mono (bj.toAft s1 (fB.n8 h1)) λd H2 s2 h2 u ru=>?_))));h! s3:=s1.grow s2;split at h2
 ·rename_i n k0 xZ
  split at h2
  ·rename_i kvs q
   split at h2
   ·rename_i hl
    o!⟨a,hn,rfl⟩:=r1;h! ek:=ab2 ru xZ;subst ek;o!⟨us,g1,g2⟩:=s3.cell hn q;h! Vx:gB X.K bW lo1 H2 v0 y:=(r0.mv x1 y1).mv (.of s2) .refl;h! x2:Xt bW H2 bW (upd H2 a (.dK (putK us k0 v0))):=λb o _ hb eb=>\(hb,by rw[cD λz=>s3.st.na n a hn (by rw[<-z];~hb)];~eb);o!⟨s4,x4⟩:=s3.write hn (o:=.dK (putK us k0 v0)) (c:=.dk (Hc kvs k0 y)) Tg (λq w=>by u! kJ at w;c! w) \(_,gG,dO.mv x2 .refl (g2.put k0 Vx)) nofun;~\(a,_,rfl,.k g1 (by rw[g2.length];~hl),h2 _ _ _ _ x4 s4)
   ·~h2.elim
  ·~h2.elim
 ·~h2.elim
T! YM{x:Str}{p:Pos}(hx:x="len")(hg:Gl X x)(hm:X.mg x=none)(hv:bootBuiltins x=some (.builtin "len"))(ha:ZE X E e f)(hn:x≠"__name__":=by decide)(hdb:E!:=by decide)
    (he:starEach [e] X.env=(false,eval e X.env)::starEach [] X.env:=by rfl)(hpl:(backTo pos (starEach [] X.env)).any (·.1)=false:=by rfl):ZE X E (.Call (.Name x p) [e] [] pos) (wX f):=by
 o!⟨ta,pa,ra⟩:=ha;r!\(_,U3 aay hg hm hv (Mw pa Mx he) hn hdb he hpl,λB al lo H σ ρ S Q s h=>ra _ _ _ _ _ _ _ _ s (bj.mono (bj.split h) λz bW lo1 H1 S1 s1 x1 y1 h1 v rv=>?_));split at h1
 ·rename_i n
  split at h1
  ·rename_i zs q
   o!⟨a,hn,rfl⟩:=rv;o!⟨vs,g1,g2⟩:=s1.cell hn q;rw[<-g2.length]at h1;~\(a,vs,rfl,.inl (.inl (.inl g1)),h1 bW lo1 H1 s1 .refl .refl _ (.int _))
  ·~h1.elim
 ·~h1.elim
end
D! S7(kvs more:List (Key×Z)):List (Key×Z):=more.foldl (λacc kv=>Hc acc kv.1 kv.2) kvs
T! dO.merge{K:W.Frag}{al:Addr->Prop}{lo:Lo}{H:Hp}{ms:List (Key×V)}{ns:List (Key×Z)}(q:dO K al lo H ms ns):∀{us:List (Key×V)} {zs:List (Key×Z)},dO K al lo H us zs->dO K al lo H (wu us ms) (S7 zs ns):=by
 induction q with
 |nil=>~λr=>r
 |cons a _ ih=>~λr=>ih (r.put _ a)
T! dO.zip{K:W.Frag}{al:Addr->Prop}{lo:Lo}{H:Hp}{ks:List Key}{vs:List V}{zs:List Z}(r:dZ K al lo H vs zs):dO K al lo H (ks.zip vs) (ks.zip zs):=by
 induction r generalizing ks with
 |nil=>rw[List.zip_nil_right,List.zip_nil_right];~.nil
 |cons a _ ih=>
  cases ks with
  |nil=>~.nil
  |cons k ks=>~.cons a ih
D! Jl(X:Cx)(E:XK)(pos:Pos)(ks:List Key)(keys:List (Option Expr))(es:List Expr)(f:aJ->aC->RX (List Z)):Prop:=∃oE:List (TE×TE),Ds X pos keys es oE/\ks.length=es.length/\
 (∀B al lo H σ ρ S (Q:List (V×V)->Hp->Prop),RZ X.K B al lo H σ ρ S->bj X.K B E al lo H σ ρ (f ρ S) (λzs aG bh H' _=>∀vs,vs.length=ks.length->dZ X.K aG bh H' vs zs->Q ((ks.map kV).zip vs) H')->NP oE σ H Q)
D! Ys(ks:List Key)(f:aJ->aC->RX (List Z)):K!:=λρ S=>(f ρ (S++[.dk []])).bind λzs S1=>match S1[S.length]? with
 |some (.dk [])=>.ok (.loc S.length) (S1.set S.length (.dk (S7 [] (ks.zip zs))))
 |_=>.bad
section
variable{X:Cx}{E:XK}{b:Nat}{e:Expr}{f:K!}{fs:aJ->aC->RX (List Z)}{pos:Pos}{ks:List Key}{keys:List (Option Expr)}{es:List Expr}
T! ar7:Jl X E pos [] [] [] aW:=\(_,aon,rfl,λB al lo H σ ρ S Q s h=>h al lo H s .refl .refl [] rfl .nil)
T! Oo{x:Str}{j p1}(he:ZE X E e f)(hr:Jl X E pos ks keys es fs):Jl X E pos (.inr x::ks) (some (.Constant (.str x) j p1)::keys) (e::es) (aN f fs):=by
 o!⟨t,p,r⟩:=he;o!⟨oE,ps,hl,rr⟩:=hr;r!\(_,aom ada p ps,by rw[List.length_cons,List.length_cons,hl],λB al lo H σ ρ S Q s h=>?_);r! r _ _ _ _ _ _ _ _ s (bj.mono (bj.split h) λz bW lo1 H1 S1 s1 x1 y1 h1 v rv=>rr _ _ _ _ _ _ _ _ s1 (bj.mono (bj.split h1) λzs cI eN H2 S2 s2 x2 y2 h2 vs hv Hv=>?_));~h2 cI eN H2 s2 .refl .refl (v::vs) (by rw[List.length_cons,List.length_cons,hv]) (.cons (rv.mv x2 y2) Hv)
T! agS:∀(ks:List Key) (vs:List V),(ks.map kV).zip vs=(ks.zip vs).map λkv=>(kV kv.1,kv.2)
 |[],_=>by simp
 |_::_,[]=>by simp
 |k::ks,v::vs=>by rw[List.map_cons,List.zip_cons_cons,List.zip_cons_cons,List.map_cons,agS ks vs]
T! arZ(h:Jl X E pos ks keys es fs)(hall:keys.all (·.isSome)=true:=by rfl)(hl:keys.length=es.length:=by rfl)(h0:keys≠[]:=by simp)(h15:keys.length<=15:=by decide):ZE X E (.Dict keys es pos) (Ys ks fs):=by
 o!⟨oE,ps,hk,rr⟩:=h;r!\(_,anR ps hall hl h0 h15,λB al lo H σ ρ S Q s h=>λp hp=>?_);h! hc:jX X.K (λb=>al b/\b≠p) (j8 lo S.length p) (upd H p (.dK [])) p (.dk []):=\([],gG,.nil);h! s1:=s.new hp Tg hc nofun;h! hn:j8 lo S.length p S.length=some p:=by u! j8;rw[if_pos rfl]
 r! rr _ _ _ _ _ _ _ _ s1 (bj.mono (bj.up (bj.split h) (CQ hp) (wj s.st p)) λzs cI eN H2 S2 s2 x2 y2 h2 vs hv Hv=>?_);split at h2
 ·rename_i q
  h! qF:=y2 _ _ hn;o!⟨us,g1,g2⟩:=s2.cell qF q;c! g2;h! x3:Xt cI H2 cI (upd H2 p (.dK (wu [] (ks.zip vs)))):=λb o _ hb eb=>\(hb,by rw[cD λz=>s2.st.na _ p qF (by rw[<-z];~hb)];~eb);o!⟨s4,x4⟩:=s2.write qF (o:=.dK (wu [] (ks.zip vs))) (c:=.dk (S7 [] (ks.zip zs))) Tg (λq w=>by u! kJ at w;c! w) \(_,gG,dO.mv x3 .refl ((dO.zip Hv).merge .nil)) nofun;r!\(g1,ks.zip vs,agS ks vs,?_,h2 _ _ _ s4 x4 .refl _ \(p,qF,rfl));rw[List.length_zip];om
 ·~h2.elim
end
end P2
namespace P2
open PySem L2
section
variable{P:Program}{w:World}{K:W.Frag}{mg:G!}{base:Heap}{f:Addr}{fd:FuncData}{x:Str}{ps:List Str}
T! ajn{k:Nat}:F! k f fd ps (bu ps.length K λ_=>.bad):=
 \(λvs H Q E h=>h.1,λA outer s H args us vs Q E _ _ _ _ h=>by o!⟨_,_,_,_,_,_,h⟩:=h;~h.elim)
T! xO{k:Nat}:F! k f fd ps (bD ps.length K λ_ _=>.bad):=
 \(λvs H Q E h=>h.1,λA outer s H args us vs Q E _ _ _ _ h=>by o!⟨_,_,_,_,_,_,_,_,_,h⟩:=h;~h.elim)
D! j7(F0:(R!)->R!):Nat->R!
 |0=>λ_=>.bad
 |m+1=>F0 (j7 F0 m)
T! Ni{k0 st n:Nat}{F0:(R!)->R!}(hn:n=ps.length)
    (abB:∀{k:Nat} {sp:Sp},F! k f fd ps sp->H! k x ps sp)
    (step:∀(Fs:R!) (k:Nat),k0<=k->H! k x ps (bu n K Fs)->F! (k+st) f fd ps (bu n K (F0 Fs))):∀m:Nat,F! (k0+m*st) f fd ps (bu n K (j7 F0 m))
 |0=>by subst hn;~ajn
 |m+1=>by
  h!:=step (j7 F0 m) (k0+m*st) (Nat.le_add_right _ _) (abB (Ni hn abB step m));rw[Nat.succ_mul,<-Nat.add_assoc];~this
end
section
variable{X:Cx}{E:XK}
T! aid:jF X (.type "int") (λxs H Q=>∃b:Bool,xs=[.bl b]/\Q (.int (if b then 1 else 0)) H):=by
 intro pins s σ H xs us Q I r h;o!⟨b,rfl,q⟩:=h;o!⟨u,rfl,ru⟩:=vals1 r;c! ru;~call_int_bool \(.int _,H,I.tok _,\(_,rfl),q)
D! yh:R!
 |[.bl b]=>.ok (.int (if b then 1 else 0))
 |ds=>intD ds
T! aax:pC X E (.type "int") yh:=by
 o!⟨r0,o0,d0⟩:=Ea (X:=X) (E:=E);r!\(_,aid.or o0,λal H xs ds Q fr r h=>?_);u! yh at h;split at h
 ·o!⟨v,rfl,q⟩:=bz.one r
  c! q;~.inl \(_,rfl,h H (.refl H) _ (.int _))
 ·~.inr (d0 _ _ _ _ _ fr r h)
end
end P2
namespace P2
open PySem L2
D! uI(f:Str)(v:Z):List (Str×Z)->List (Str×Z)
 |[]=>[(f,v)]
 |(g,x)::r=>if g=f then(g,v)::r else(g,x)::uI f v r
section
variable{K:W.Frag}{al:Addr->Prop}{lo:Lo}{H:Hp}
T! dO.look{us:List (Str×V)}{zs:List (Str×Z)}(r:dO K al lo H us zs){f:Str}{z:Z}(h:zs.lookup f=some z):∃v,us.lookup f=some v/\gB K al lo H v z:=by
 induction r with
 |nil=>c! h
 |@cons k v z' vs zs' q _ ih=>
  rw[List.lookup_cons]at h⊢;cases e:f==k with
  |true=>rw[e]at h;c! h;~\(v,rfl,q)
  |false=>rw[e]at h;~ih h
T! dO.acJ{us:List (Str×V)}{zs:List (Str×Z)}(r:dO K al lo H us zs){f:Str}(h:zs.lookup f=Option.none):us.lookup f=Option.none:=by
 induction r with
 |nil=>rfl
 |@cons k v z' vs zs' q _ ih=>
  rw[List.lookup_cons]at h⊢;cases e:f==k with
  |true=>rw[e]at h;c! h
  |false=>rw[e]at h;~ih h
T! dO.gZ{us:List (Str×V)}{zs:List (Str×Z)}(r:dO K al lo H us zs)(f:Str){v:V}{z:Z}(q:gB K al lo H v z):dO K al lo H (L2.gZ f v us) (uI f z zs):=by
 induction r with
 |nil=>~.cons q .nil
 |@cons k v' z' vs zs' q' r' ih=>
  u! L2.gZ uI;by_cases e:k=f;·rw[if_pos e,if_pos e];~.cons q r'
  ·rw[if_neg e,if_neg e];~.cons q' ih
T! Th{C dx:Addr}{us:List (Str×V)}:NT (.ins C dx us):=λ_ h=>nomatch h
end
D! oJ(C:Addr)(fo:K!)(f:Str):K!:=λρ S=>(fo ρ S).bind λz S1=>match z with
 |.loc n=>(match S1[n]? with
  |some (.ob C' fs)=>if C'=C then(match fs.lookup f with
   |some z=>.ok z S1
   |none=>.bad)else .bad
  |_=>.bad)
 |_=>.bad
D! uZ(C:Addr)(fo:K!)(f:Str)(fv:K!):aJ->aC->aU:=λρ S=>toZ (fv ρ S) λv S0=>toZ (fo ρ S0) λz S1=>match z with
 |.loc n=>(match S1[n]? with
  |some (.ob C' fs)=>if C'=C/\fs.length<1000 then .nx ρ (S1.set n (.ob C' (uI f v fs)))else .bad
  |_=>.bad)
 |_=>.bad
D! pq(C:Addr)(fo:K!)(f:Str)(g:Int->Int->Int)(fv:K!):aJ->aC->aU:=λρ S=>toZ (fo ρ S) λz S1=>match z with
 |.loc n=>(match S1[n]? with
  |some (.ob C' fs)=>if C'=C then(match fs.lookup f with
   |some (.d (.int i))=>toZ (fv ρ S1) λv S2=>(match v,S2[n]? with
    |.d (.int j),some (.ob C2 J2)=>if C2=C/\J2.length<1000 then .nx ρ (S2.set n (.ob C2 (uI f (.d (.int (g i j))) J2)))else .bad
    |_,_=>.bad)
   |_=>.bad)else .bad
  |_=>.bad)
 |_=>.bad
D! VB(g:Int->Int->Int):V->V->Hp->VK->Prop:=λx y H Q=>∃i j,x=.int i/\y=.int j/\Q (.int (g i j)) H
T! R3{X:Cx}:zf X .Add (VB λi j=>i+j):=akg
T! akj{X:Cx}:zf X .Sub (VB λi j=>i - j):=aki
D! cQ(C:Addr)(m:Str)(F:Z!)(dz:List D)(fo:K!)(fs:aJ->aC->RX (List Z)):K!:=λρ S=>(fo ρ S).bind λz S1=>match z with
 |.loc n=>(match S1[n]? with
  |some (.ob C' us)=>if C'=C/\us.lookup m=none then(fs ρ S1).bind λzs S2=>F (.loc n::(zs++dz.map .d)) S2 else .bad
  |_=>.bad)
 |_=>.bad
D! CV(C:Addr)(F:Z!)(fs:aJ->aC->RX (List Z)):K!:=λρ S=>(fs ρ S).bind λzs S1=>match F (.loc S1.length::zs) (S1++[.ob C []])with
 |.ok (.d .non) S2=>.ok (.loc S1.length) S2
 |.ex c ns ds S2=>.ex c ns ds S2
 |_=>.bad
D! xu(P:Program)(w:World)(K:W.Frag)(mg:G!)(base:Heap)(k:Nat)(C:Addr)(m:Str)(ps:List Str)(dz:List D)(sp:Sp):Prop:=
 ∃(f:Addr) (fd:FuncData) (ds:List Value) (d8:List V),F! k f fd ps sp/\Binds K fd ps ds/\Vals d8 ds/\(∀al H,bz K al H d8 dz)/\Meth K C m f
T! xu.up{P:Program}{w:World}{K:W.Frag}{mg:G!}{base:Heap}{j k:Nat}{C:Addr}{m:Str}{ps:List Str}{dz:List D}{sp:Sp}(G:J! j C m ps dz sp)(h:j<=k):J! k C m ps dz sp:=
 let\(f,fd,ds,d8,fo,r):=G;\(f,fd,ds,d8,fo.mono h,r)
D! tR(P:Program)(w:World)(K:W.Frag)(mg:G!)(base:Heap)(k:Nat)(C:Addr)(ps:List Str)(sp:Sp):Prop:=
 ∃(f:Addr) (fd:FuncData),F! k f fd ps sp/\Binds K fd ps []/\Mk K C f
T! tR.up{P:Program}{w:World}{K:W.Frag}{mg:G!}{base:Heap}{j k:Nat}{C:Addr}{ps:List Str}{sp:Sp}(G:tR P w K mg base j C ps sp)(h:j<=k):tR P w K mg base k C ps sp:=
 let\(f,fd,fo,r):=G;\(f,fd,fo.mono h,r)
section
variable{X:Cx}{E:XK}{b:Nat}{o e value:Expr}{es:List Expr}{pos p apos pos' N7:Pos}{fo fv:K!}{fs:aJ->aC->RX (List Z)}{f m x:Str}{C:Addr}{k n:Nat}{ps:List Str}{dz:List D}{F:Z!}
T! Il(c:lE X.K C)(na:nF X.K C f)(ho:ZE X E o fo)(hb:attributeBase o f X.env (eval o X.env)=eval o X.env:=by rfl):ZE X E (.Attribute o f pos) (oJ C fo f):=by
 o!⟨to,po,ro⟩:=ho;r!\(_,anS po hb,λB al lo H σ ρ S Q s h=>ro _ _ _ _ _ _ _ _ s (bj.mono (bj.split h) λz bW lo1 H1 S1 s1 x1 y1 h1 v rv=>?_));split at h1
 ·rename_i n
  split at h1
  ·rename_i C' us q
   split at h1
   ·rename_i hc
    subst hc;split at h1
    ·rename_i z0 q0
     o!⟨a,hn,rfl⟩:=rv;o!⟨dx,vs,g1,g2⟩:=s1.cell hn q;o!⟨w,e1,e2⟩:=g2.look q0;~\(a,_,dx,vs,w,rfl,g1,c,na,e1,h1 bW lo1 H1 s1 .refl .refl w e2)
    ·~h1.elim
   ·~h1.elim
  ·~h1.elim
 ·~h1.elim
T! Oq(c:lE X.K C)(na:nF X.K C f)(ho:ZE X E o fo)(hv:ZE X E value fv)(hs:swapsWith value (some (.Attribute o f pos')) pos.line X.env=pure false:=by rfl):ZS X E b (.Assign [.Attribute o f pos'] value pos) (uZ C fo f fv):=by
 o!⟨to,po,ro⟩:=ho;o!⟨tv,pv,rv⟩:=hv;r!\(_,aor po pv hs,λB hb al lo H σ ρ S D s h=>rv _ _ _ _ _ _ _ _ s (bj.mono (fB.n8 h) λy al0 lo0 H0 S0 s0 x0 y0 h0 v0 r0=>ro _ _ _ _ _ _ _ _ s0 (bj.mono (fB.n8 h0) λz bW lo1 H1 S1 s1 x1 y1 h1 v1 r1=>?_)));split at h1
 ·rename_i n
  split at h1
  ·rename_i C' us q
   split at h1
   ·rename_i hc
    o!⟨hc,hl⟩:=hc;subst hc;o!⟨a,hn,rfl⟩:=r1;o!⟨dx,vs,g1,g2⟩:=s1.cell hn q;h! Vx:gB X.K bW lo1 H1 v0 y:=r0.mv x1 y1;h! x2:Xt bW H1 bW (upd H1 a (.ins C' dx (L2.gZ f v0 vs))):=λb o _ hb eb=>\(hb,by rw[cD λz=>s1.st.na n a hn (by rw[<-z];~hb)];~eb);o!⟨s4,x4⟩:=s1.write hn (o:=.ins C' dx (L2.gZ f v0 vs)) (c:=.ob C' (uI f y us)) Th (λq w=>by u! kJ at w;c! w) \(_,_,gG,dO.mv x2 .refl (g2.gZ f Vx)) nofun;~\(a,_,dx,vs,rfl,g1,c,na,by rw[g2.length];~hl,h1 _ _ _ _ x4 s4)
   ·~h1.elim
  ·~h1.elim
 ·~h1.elim
T! Ot{op:Operator}{g:Int->Int->Int}(hop:zf X op (VB g))(c:lE X.K C)(na:nF X.K C f)(ho:ZE X E o fo)(hv:ZE X E value fv):ZS X E b (.AugAssign (.Attribute o f N7) op value pos) (pq C fo f g fv):=by
 o!⟨to,po,ro⟩:=ho;o!⟨tv,pv,rv⟩:=hv;r!\(_,aot po pv hop,λB hb al lo H σ ρ S D s h=>ro _ _ _ _ _ _ _ _ s (bj.mono (fB.n8 h) λz bW lo1 H1 S1 s1 x1 y1 h1 v1 r1=>?_));split at h1
 ·rename_i n
  split at h1
  ·rename_i C' us q
   split at h1
   ·rename_i hc
    subst hc;split at h1
    ·rename_i i q0
     o!⟨a,hn,rfl⟩:=r1;o!⟨dx,vs,g1,g2⟩:=s1.cell hn q;o!⟨w,e1,e2⟩:=g2.look q0;h! ew:w=.int i:=by c! e2;rfl
     subst ew;r!\(a,_,dx,vs,_,rfl,g1,c,na,e1,rv _ _ _ _ _ _ _ _ s1 (bj.mono (fB.n8 h1) λv cI eN H2 S2 s2 x2 y2 h2 u ru=>?_));split at h2
     ·rename_i j C2 J2 q2
      split at h2
      ·rename_i hc
       o!⟨hc,hl⟩:=hc;subst hc;h! eu:u=.int j:=by c! ru;rfl
       subst eu;h! qF:=y2 n a hn;o!⟨QZ,X5,g3,g4⟩:=s2.cell qF q2;h! x3:Xt cI H2 cI (upd H2 a (.ins C2 QZ (L2.gZ f (.int (g i j)) X5))):=λb o _ hb eb=>\(hb,by rw[cD λz=>s2.st.na n a qF (by rw[<-z];~hb)];~eb);o!⟨s4,x4⟩:=s2.write qF (o:=.ins C2 QZ (L2.gZ f (.int (g i j)) X5)) (c:=.ob C2 (uI f (.d (.int (g i j))) J2)) Th (λq w=>by u! kJ at w;c! w) \(_,_,gG,dO.mv x3 .refl (g4.gZ f (.int _))) nofun;~\(i,j,rfl,rfl,QZ,X5,g3,by rw[g4.length];~hl,h2 _ _ _ _ x4 s4)
      ·~h2.elim
     ·~h2.elim
    ·~h1.elim
   ·~h1.elim
  ·~h1.elim
 ·~h1.elim
T! aeO{K:W.Frag}{al:Addr->Prop}{lo:Lo}{H:Hp}{vs ws:List V}{zs:List Z}{ds:List D}(r:dZ K al lo H vs zs)(q:bz K al H ws ds):dZ K al lo H (vs++ws) (zs++ds.map .d):=r.append (.ofD q)
T! acC{B:Z0}{al:Addr->Prop}{lo:Lo}{H:Hp}{σ:St}{ρ:aJ}{S:aC}{Q:VK}{zs:List Z}{vs:List V}(s:RZ X.K B al lo H σ ρ S)(rv:dZ X.K al lo H vs zs)(hl:vs.length=n)
    (h:bj X.K B E al lo H σ ρ (F zs S) (λz aG bh H' _=>∀v,gB X.K aG bh H' v z->Q v H')):bD n X.K F vs H Q E:=by
 r!\(hl,s.tt,al,lo,zs,S,s.fresh,s.st,rv,?_);cases q2:F zs S with
 |bad=>rw[q2]at h;~h.elim
 |ex c ns ds S2=>rw[q2]at h;~λcI eN H2 dx e2 xr=>h cI eN H2 dx (s.toEZ.trans e2) xr
 |ok z S2=>rw[q2]at h;~λcI eN H2 v e2 VN=>h cI eN H2 (s.after e2) e2.xt e2.lx v VN
T! rn{pl:Sem Bool}(G:xu X.prog X.w X.K X.mg X.base k C m ps dz (bD n X.K F))(c:lE X.K C)(hr:dI k X.A)(hx:Passes (eE X.prog X.w) X E)(ho:ZE X E o fo)(ha:ZA X E (e::es) fs)(hn:(e::es).length+1+dz.length=n)
    (hst:W!:=by rfl)(hpl:Q!:=by rfl)
    (ht:eval (.Call (.Attribute o m apos) (e::es) [] pos) X.env=(do
      let ov<-eval o X.env
      standAt apos.atName
      let(f,first)<-holding [ov] (getMethod ov m pl)
      callWith pos f first (backTo pos (starEach (e::es) X.env)) (backToKw pos (keywordEach [] X.env))):=by rfl):
    ZE X E (.Call (.Attribute o m apos) (e::es) [] pos) (cQ C m F dz fo fs):=by
 o!⟨to,po,ro⟩:=ho;o!⟨ta,pa,ra,lb⟩:=ha;o!⟨f,fd,ds,d8,Eo,bi,va,rd,me⟩:=G;r!\(_,anY po c me Eo hr bi va hx pa hst hpl ht,λB al lo H σ ρ S Q s h=>ro _ _ _ _ _ _ _ _ s (bj.mono (bj.split h) λz bW lo1 H1 S1 s1 x1 y1 h1 v rv=>?_));split at h1
 ·rename_i j
  split at h1
  ·rename_i C' us q
   split at h1
   ·rename_i hc
    o!⟨hc,hl⟩:=hc;subst hc;o!⟨a,uy,rfl⟩:=rv;o!⟨dx,vs,g1,g2⟩:=s1.cell uy q;r!\(a,dx,vs,rfl,g1,g2.acJ hl,ra _ _ _ _ _ _ _ _ s1 ?_);cases q2:fs ρ S1 with
    |bad=>rw[q2]at h1;~h1.elim
    |ex c ns ds S2=>rw[q2]at h1;~h1
    |ok zs S2=>
     rw[q2]at h1;h! ll:=lb _ _ _ _ q2;intro cI eN H2 s2 x2 y2 ws rw2;r! acC s2 (zs:=.loc j::(zs++dz.map .d)) (.cons \(a,y2 _ _ uy,rfl) (aeO rw2 (rd cI H2))) ?_ (bj.up h1 x2 y2);h!:=(rd cI H2).length;rw[List.length_cons,List.length_append,rw2.length,this,ll,<-hn];om
   ·~h1.elim
  ·~h1.elim
 ·~h1.elim
T! jc{pl:Sem Bool}(G:xu X.prog X.w X.K X.mg X.base k C m ps dz (bD n X.K F))(c:lE X.K C)(hr:dI k X.A)(hx:Passes (eE X.prog X.w) X E)(ho:ZE X E o fo)(hn:1+dz.length=n)
    (ht:eval (.Call (.Attribute o m apos) [] [] pos) X.env=(do
      let ov<-eval o X.env
      standAt apos.atName
      let(f,first)<-holding [ov] (getMethod ov m pl)
      callWith pos f first (backTo pos (starEach [] X.env)) (backToKw pos (keywordEach [] X.env))):=by rfl):
    ZE X E (.Call (.Attribute o m apos) [] [] pos) (cQ C m F dz fo aW):=by
 o!⟨to,po,ro⟩:=ho;o!⟨f,fd,ds,d8,Eo,bi,va,rd,me⟩:=G;r!\(_,anZ po c me Eo hr bi va hx ht,λB al lo H σ ρ S Q s h=>ro _ _ _ _ _ _ _ _ s (bj.mono (bj.split h) λz bW lo1 H1 S1 s1 x1 y1 h1 v rv=>?_));split at h1
 ·rename_i j
  split at h1
  ·rename_i C' us q
   split at h1
   ·rename_i hc
    o!⟨hc,hl⟩:=hc;subst hc;o!⟨a,uy,rfl⟩:=rv;o!⟨dx,vs,g1,g2⟩:=s1.cell uy q;r!\(a,dx,vs,rfl,g1,g2.acJ hl,?_);h! h1:bj X.K B E bW lo1 H1 σ ρ (F (.loc j::([]++dz.map .d)) S1) (λz aG bh H' _=>∀v,gB X.K aG bh H' v z->Q v H'):=h1;r! acC s1 (zs:=.loc j::([]++dz.map .d)) (.cons \(a,uy,rfl) (aeO .nil (rd bW H1))) ?_ h1;h!:=(rd bW H1).length;rw[List.length_cons,List.length_append,this,<-hn];simp;om
   ·~h1.elim
  ·~h1.elim
 ·~h1.elim
T! alw{B:Z0}{al:Addr->Prop}{lo:Lo}{H:Hp}{σ:St}{ρ:aJ}{S:aC}{Q:VK}{zs:List Z}{vs:List V}(s:RZ X.K B al lo H σ ρ S)(rv:dZ X.K al lo H vs zs)(hl:vs.length+1=n)
    (h:bj X.K B E al lo H σ ρ (match F (.loc S.length::zs) (S++[.ob C []])with
      |.ok (.d .non) S2=>RX.ok (Z.loc S.length) S2
      |.ex c ns ds S2=>.ex c ns ds S2
      |_=>.bad) (λz aG bh H' _=>∀v,gB X.K aG bh H' v z->Q v H')){y dx:Addr}(hy:H y=none)(hd:H dx=none)(ne:dx≠y):bD n X.K F (.ref y::(vs++[])) (upd (upd H dx (.own y)) y (.ins C dx [])) (λv H2=>v=.non/\Q (.ref y) H2) E:=by
 h! s1:=s.grow (mD (K:=X.K) (o:=.own y) hd);h! hy1:(upd H dx (.own y)) y=none:=by rw[cD (Ne.symm ne)];~hy
 h! hc:jX X.K (λb=>al b/\b≠y) (j8 lo S.length y) (upd (upd H dx (.own y)) y (.ins C dx [])) y (.ob C []):=\(dx,[],gG,.nil);h! s2:=s1.new hy1 Th hc nofun;h! x2:Xt al H (λb=>al b/\b≠y) (upd (upd H dx (.own y)) y (.ins C dx [])):=(Xt.of (mD (K:=X.K) (o:=.own y) hd)).trans (CQ hy1);h! y2:=wj s1.st y;h! hn:j8 lo S.length y S.length=some y:=by u! j8;rw[if_pos rfl]
 r!\(by rw[List.append_nil,List.length_cons];~hl,s2.tt,_,_,.loc S.length::zs,S++[.ob C []],s2.fresh,s2.st,.cons \(y,hn,rfl) (by rw[List.append_nil];~rv.mv x2 y2),?_);cases q2:F (.loc S.length::zs) (S++[.ob C []])with
 |bad=>rw[q2]at h;~h.elim
 |ex c ns ds S2=>rw[q2]at h;~λxF Gx H3 dx e3 xr=>h xF Gx H3 dx (s2.toEZ.trans e3) xr
 |ok z S2=>
  rw[q2]at h;cases z with
  |loc j=>~h.elim
  |tk ks=>~h.elim
  |d d=>
   cases d with
   |non=>
    intro xF Gx H3 v e3 rv3;h! ev:v=.non:=by c! rv3;rfl
    ~\(ev,h xF Gx H3 (s2.after e3) (x2.trans e3.xt) (y2.trans e3.lx) _ \(y,e3.lx _ _ hn,rfl))
   |_=>~h.elim
T! ar4(G:tR X.prog X.w X.K X.mg X.base k C ps (bD n X.K F))(hr:dI (k+1) X.A)(hg:Gl X x)(hm:X.mg x=some (.ref C))(hx:Passes (eE X.prog X.w) X E)(ha:ZA X E (e::es) fs)(hn:(e::es).length+1=n)
    (hdb:E!:=by decide)(he:W!:=by rfl)(hpl:Q!:=by rfl):
    ZE X E (.Call (.Name x p) (e::es) [] pos) (CV C F fs):=by
 o!⟨ta,pa,ra,lb⟩:=ha;o!⟨f,fd,Eo,bi,mk⟩:=G;r!\(_,anW mk Eo hr hg hm bi .nil hx pa hdb he hpl,λB al lo H σ ρ S Q s h=>ra _ _ _ _ _ _ _ _ s ?_);u! CV at h;cases q:fs ρ S with
 |bad=>rw[q]at h;~h.elim
 |ex c ns ds S1=>rw[q]at h;~h
 |ok zs S1=>
  rw[q]at h;intro bW lo1 H1 s1 x1 y1 vs rv y dx hy hd ne;h! ll:=lb _ _ _ _ q;~alw s1 rv (by rw[rv.length,ll];~hn) (bj.up h x1 y1) hy hd ne
end
structure lH(K:W.Frag)(x qual:Str)(st:Stmt)(dV:Value)(f:Addr)(fd:FuncData):Prop where
 ex:∃(oc:Value) (od:Option Addr) (kV doc pm:Value) (an:Option Addr) (cdv ct:Value) (osl:Array (Option Value)),
  fd=W.fnOf x qual (fV st) (d7 st) (bf st) dV kV doc pm an cdv ct/\K.lookup f=some \(oc,od,.func fd,osl)/\W.codeIn K cdv qual=true
 kp:W.keepIn K (.ref f)=true
section
variable{P:Program}{w:World}{K:W.Frag}{mg:G!}{base:Heap}
T! abl{x qual:Str}{st:Stmt}{f:Addr}{oc:Value}{od an:Option Addr}{osl:Array (Option Value)}{dV kV doc pm cdv ct:Value}(l:K.lookup f=some \(oc,od,.func (W.fnOf x qual (fV st) (d7 st) (bf st) dV kV doc pm an cdv ct),osl))
    (c:W.codeIn K cdv qual=true)(k:W.keepIn K (.ref f)=true):lH K x qual st dV f (W.fnOf x qual (fV st) (d7 st) (bf st) dV kV doc pm an cdv ct):=\(\(oc,od,kV,doc,pm,an,cdv,ct,osl,rfl,l,c),k)
T! vZ{x qual:Str}{st:Stmt}{dV:Value}{f:Addr}{fd:FuncData}{N ps:List Str}{k:Nat}{g:Nat->aJ->aC->aU}(F:lH K x qual st dV f fd)(S:b7 N ps (bf st))
    (body:∀(b:Nat) (cdv:Value) (A:Around) (outer:List Env) (s:Shared) (H:Hp) (E:XK),dI k (jK (eE P w) P w K mg base N qual (bf st) f cdv A outer s H E).A->rH (jK (eE P w) P w K mg base N qual (bf st) f cdv A outer s H E) E b (d7 st) (g b)):
    F! (k+1) f fd ps (bD ps.length K λzs S=>bw (g S.length (bG N.length zs) S)):=by
 o!⟨oc,od,kV,doc,pm,an,cdv,ct,osl,rfl,lk,hcd⟩:=F.ex;r! Q9 lk hcd S (λvs H Q E h=>h.1) λA outer s H vs Q E hr h=>?_;o!⟨hl,tt,al,lo,zs,S0,fr,st,rv,h⟩:=h;o!⟨t,p,r⟩:=body S0.length cdv A outer s H E hr;dsimp only at h;r!\(t,p,r \(H,al,lo,S0.length) rfl al lo H (L2.start N vs) (bG N.length zs) S0 _ (aeV tt fr st rv) ?_);cases q:g S0.length (bG N.length zs) S0 with
 |nx ρ S1=>rw[q]at h;~λaG bh H' σ' _ s'=>h aG bh H' .non s'.toEZ .non
 |rt z S1=>rw[q]at h;~h
 |ex c ns es S1=>rw[q]at h;~h
 |bk ρ S1=>rw[q]at h;~h.elim
 |ct ρ S1=>rw[q]at h;~h.elim
 |bad=>rw[q]at h;~h.elim
T! lH.binds{x qual:Str}{st:Stmt}{dV:Value}{f:Addr}{fd:FuncData}{ps:List Str}(F:lH K x qual st dV f fd)
    (h:∀(kV doc pm:Value) (an:Option Addr) (cdv ct:Value) (us:List Value),us.length=ps.length->bindArgs (W.fnOf x qual (fV st) (d7 st) (bf st) dV kV doc pm an cdv ct) \(us,[])=pure (ps.zip us)):Binds K fd ps []:=by
 o!⟨oc,od,kV,doc,pm,an,cdv,ct,osl,rfl,lk,hcd⟩:=F.ex;~.all (h kV doc pm an cdv ct)
T! lH.aao{x qual:Str}{st:Stmt}{tA f:Addr}{fd:FuncData}{ps:List Str}{ds:List Value}{o:Obj}{items:Array Value}{n:Nat}(F:lH K x qual st (.ref tA) f fd)(ho:K.lookup tA=some o)(hs:o.data=.seq items n)
    (h:∀(kV doc pm:Value) (an:Option Addr) (cdv ct:Value) (us:List Value),us.length+ds.length=ps.length->∃k:Option (Array Value)->Sem (List (Str×Value)),bindArgs (W.fnOf x qual (fV st) (d7 st) (bf st) (.ref tA) kV doc pm an cdv ct) \(us,[])=seqItems? (.ref tA)>>=k/\k (some items)=pure (ps.zip (us++ds))):Binds K fd ps ds:=by
 o!⟨oc,od,kV,doc,pm,an,cdv,ct,osl,rfl,lk,hcd⟩:=F.ex;intro s us uB hl;rw[List.length_append]at hl;o!⟨k,h1,h2⟩:=h kV doc pm an cdv ct us hl;~.of_defaults rfl (uB _ _ ho) hs h1 h2
end
end P2
namespace WR
open PySem L2 P2 WP
D! Kf(a:Ad):Ev->RT:=(aZ (bZ 1 (jh (kZ (λρ=>(&0 ρ).bind jH) 1 [] (gV 0) (λ_=>.ok true) (nJ (b1 tB (d2 mX &0 #"abcdefghijklmnopqrstuvwxyz0123456789/")) &0 ((b8 #" " (b8 (d1 du &0) (b8 #" " iV))) Str.empty)))))
    (bU (jh (kZ (λρ=>((gM "str" uN (gM "str" Lp #"" (ak &1 aB)) (ak #" " aB)) ρ).bind jH) 1 [] (gV 0) (b1 tB (d2 fY &0 #"")) &0))))
D! v5(a:Ad)(Iv:R!)(b:Nat):aJ->aC->aU:=(aY (uZ a.Tokens (zV 0) "tokens" (zD (dA Iv (ak &1 aB))))
    (aY (uZ a.Tokens (zV 0) "place" (zD #0))
    (aY (uZ a.Tokens (zV 0) "parts" (zD #0))
    (uZ a.Tokens (zV 0) "brackets" (zD #0)))))
D! FQ(a:Ad)(b:Nat):aJ->aC->aU:=(aY (cU 2 (z2 aP (oJ a.Tokens (zV 0) "place") (zD &1)))
    (fD (Oj (il tB (z2 nZ (zD &2) (zF cj (aN (oJ a.Tokens (zV 0) "tokens") aW)))) (z2 aO (oJ a.Tokens (zV 0) "tokens") (zD &2)) (zD #""))))
D! xV(a:Ad)(dR:Z!)(b:Nat):aJ->aC->aU:=(aY (cU 1 (cQ a.Tokens "ahead" dR [(.int 0)] (zV 0) aW))
    (aY (dH (zB (b1 tB (d2 cX &1 #""))) (λρ S=>leave (U! (dB ρ)) S) f9)
    (aY (pq a.Tokens (zV 0) "place" (λi j=>i+j) (zD #1))
    (fD (zD &1)))))
D! xU(a:Ad)(iD:Z!)(b:Nat):aJ->aC->aU:=(dH (il tB (z2 fY (cQ a.Tokens "take" iD [] (zV 0) aW) (zD &1))) (λρ S=>leave (U! (dB ρ)) S) f9)
D! FZ(a:Ad)(dR:Z!)(b:Nat):aJ->aC->aU:=(dH (il tB (z2 fY (cQ a.Tokens "ahead" dR [(.int 0)] (zV 0) aW) (zD #""))) (λρ S=>leave (U! (dB ρ)) S) f9)
D! FT(a:Ad)(b:Nat):aJ->aC->aU:=(aY (pq a.Tokens (zV 0) "parts" (λi j=>i+j) (zD #1))
    (dH (il tB (z2 eG (oJ a.Tokens (zV 0) "parts") (zD #30))) (λρ S=>leave (U! (dB ρ)) S) f9))
D! FW(a:Ad)(gC:Z!)(b:Nat):aJ->aC->aU:=(aY (fO (cQ a.Tokens "expect" gC [] (zV 0) (aN (zD &1) aW)))
    (aY (pq a.Tokens (zV 0) "brackets" (λi j=>i+j) (zD #1))
    (dH (il tB (z2 eG (oJ a.Tokens (zV 0) "brackets") (zD #16))) (λρ S=>leave (U! (dB ρ)) S) f9)))
D! Ga(a:Ad)(gC:Z!)(b:Nat):aJ->aC->aU:=(aY (fO (cQ a.Tokens "expect" gC [] (zV 0) (aN (zD &1) aW)))
    (pq a.Tokens (zV 0) "brackets" (λi j=>i - j) (zD #1)))
D! Ez(a:Ad)(vK tV vL:Z!)(b:Nat):aJ->aC->aU:=(aY (fO (cQ a.Tokens "enter" vK [] (zV 0) (aN (zD #"(") aW)))
    (aY (cU 1 (zZ tV (aN (zV 0) aW)))
    (aY (fO (cQ a.Tokens "leave" vL [] (zV 0) (aN (zD #")") aW)))
    (fD (zD &1)))))
D! FJ(a:Ad)(Ja Jb vD:R!)(dR Du fH iD:Z!)(b:Nat):aJ->aC->aU:=(aY (dH (il tB (z2 cX (cQ a.Tokens "ahead" dR [(.int 0)] (zV 0) aW) (zD #"("))) (fD (zZ Du (aN (zV 0) aW))) f9)
    (aY (fO (cQ a.Tokens "begin_part" fH [] (zV 0) aW))
    (aY (cU 1 (cQ a.Tokens "take" iD [] (zV 0) aW))
    (aY (dH (zB (b1 tB (d2 cX &1 #"here"))) (fD (zD (dA bK (ak #"here" aB)))) f9)
    (aY (dH (zB (b1 tB (d2 cT &1 (dA bK (ak #"back" (ak #"on" (ak #"ago" (ak #"until" aB)))))))) (fD (zF bK (aN (zD &1) (aN (zF Ja (aN (cQ a.Tokens "take" iD [] (zV 0) aW) (aN (zD #1) (aN (zD #9) aW)))) aW)))) f9)
    (aY (dH (zB (b1 tB (d2 cX &1 #"at"))) (fD (zF bK (aN (zD #"at") (aN (zF Jb (aN (cQ a.Tokens "take" iD [] (zV 0) aW) aW)) aW)))) f9)
    (aY (dH (zB (b1 tB (d2 cX &1 #"abs"))) (fD (zF bK (aN (zD #"abs") (aN (zZ Du (aN (zV 0) aW)) aW)))) f9)
    (fD (zD (dA bK (ak #"num" (ak (dA vD (ak &1 aB)) aB))))))))))))
D! Fz(a:Ad)(vD:R!)(dR Dv iD gC fH:Z!)(b:Nat):aJ->aC->aU:=(aY (dH (il tB (z2 fY (cQ a.Tokens "ahead" dR [] (zV 0) (aN (zD #1) aW)) (zD #"*"))) (fD (zZ Dv (aN (zV 0) aW))) f9)
    (aY (cU 1 (zF vD (aN (cQ a.Tokens "take" iD [] (zV 0) aW) aW)))
    (aY (fO (cQ a.Tokens "expect" gC [] (zV 0) (aN (zD #"*") aW)))
    (aY (fO (cQ a.Tokens "begin_part" fH [] (zV 0) aW))
    (fD (zF bK (aN (zD #"times") (aN (zD &1) (aN (zZ Dv (aN (zV 0) aW)) aW)))))))))
D! PX(a:Ad)(xD dR iD fH:Z!):aJ->aC->aU:=(aY (cU 2 (cQ a.Tokens "take" iD [] (zV 0) aW))
    (aY (fO (cQ a.Tokens "begin_part" fH [] (zV 0) aW))
    (cU 1 (zF bK (aN (zD &2) (aN (zD &1) (aN (zZ xD (aN (zV 0) aW)) aW)))))))
D! FN(a:Ad)(xD dR iD fH:Z!)(b:Nat):aJ->aC->aU:=(aY (cU 1 (zZ xD (aN (zV 0) aW)))
    (aY (lB (il tB (z2 cT (cQ a.Tokens "ahead" dR [(.int 0)] (zV 0) aW) (zD (dA bK (ak #"+" (ak #"-" aB)))))) (PX a xD dR iD fH) 100)
    (fD (zD &1))))
D! EY(a:Ad)(fH tV iD:Z!)(b:Nat):aJ->aC->aU:=(aY (fO (cQ a.Tokens "begin_part" fH [] (zV 0) aW))
    (aY (cU 1 (zZ tV (aN (zV 0) aW)))
    (aY (cU 2 (cQ a.Tokens "take" iD [] (zV 0) aW))
    (aY (dH (zB (b1 tB (d2 yr &2 (dA bK (ak #"<" (ak #"=" aB)))))) (λρ S=>leave (U! (dB ρ)) S) f9)
    (fD (zF bK (aN (zD &2) (aN (zD &1) (aN (zZ tV (aN (zV 0) aW)) aW)))))))))
D! Fe(a:Ad)(dR gC fH ql vK vJ vL Jm:Z!)(b:Nat):aJ->aC->aU:=(aY (dH (il tB (z2 cX (cQ a.Tokens "ahead" dR [(.int 0)] (zV 0) aW) (zD #"not"))) (aY (fO (cQ a.Tokens "expect" gC [] (zV 0) (aN (zD #"not") aW)))
    (aY (fO (cQ a.Tokens "begin_part" fH [] (zV 0) aW))
    (fD (zF bK (aN (zD #"not") (aN (zZ ql (aN (zV 0) aW)) aW)))))) f9)
    (aY (dH (il tB (z2 cX (cQ a.Tokens "ahead" dR [(.int 0)] (zV 0) aW) (zD #"["))) (aY (fO (cQ a.Tokens "enter" vK [] (zV 0) (aN (zD #"[") aW)))
    (aY (cU 1 (zZ vJ (aN (zV 0) aW)))
    (aY (fO (cQ a.Tokens "leave" vL [] (zV 0) (aN (zD #"]") aW)))
    (fD (zD &1))))) f9)
    (fD (zZ Jm (aN (zV 0) aW)))))
D! aad(a:Ad)(ql dR gC fH:Z!):aJ->aC->aU:=(aY (fO (cQ a.Tokens "expect" gC [] (zV 0) (aN (zD #"and") aW)))
    (aY (fO (cQ a.Tokens "begin_part" fH [] (zV 0) aW))
    (cU 1 (zF bK (aN (zD #"and") (aN (zD &1) (aN (zZ ql (aN (zV 0) aW)) aW)))))))
D! Ey(a:Ad)(ql dR gC fH:Z!)(b:Nat):aJ->aC->aU:=(aY (cU 1 (zZ ql (aN (zV 0) aW)))
    (aY (lB (il tB (z2 cX (cQ a.Tokens "ahead" dR [(.int 0)] (zV 0) aW) (zD #"and"))) (aad a ql dR gC fH) 100)
    (fD (zD &1))))
D! aae(a:Ad)(xC dR gC fH:Z!):aJ->aC->aU:=(aY (fO (cQ a.Tokens "expect" gC [] (zV 0) (aN (zD #"or") aW)))
    (aY (fO (cQ a.Tokens "begin_part" fH [] (zV 0) aW))
    (cU 1 (zF bK (aN (zD #"or") (aN (zD &1) (aN (zZ xC (aN (zV 0) aW)) aW)))))))
D! Fy(a:Ad)(xC dR gC fH:Z!)(b:Nat):aJ->aC->aU:=(aY (cU 1 (zZ xC (aN (zV 0) aW)))
    (aY (lB (il tB (z2 cX (cQ a.Tokens "ahead" dR [(.int 0)] (zV 0) aW) (zD #"or"))) (aae a xC dR gC fH) 100)
    (fD (zD &1))))
D! FP(a:Ad)(vJ Jq:Z!)(b:Nat):aJ->aC->aU:=(aY (cU 1 (zZ vJ (aN (zV 0) aW)))
    (aY (fO (cQ a.Tokens "expect_end" Jq [] (zV 0) aW))
    (fD (zD &1))))
D! Fd(a:Ad)(Jp Jo:Z!)(b:Nat):aJ->aC->aU:=(fD (zZ Jo (aN (CV a.Tokens Jp (aN (zD &0) aW)) aW)))
end WR
namespace WC
open PySem L2 P2 WP
D! PQ(a:Ad):Ev->RT:=(aZ (bZ 4 (d2 eZ &2 &3))
    (aZ (bZ 2 &3)
    (bZ 3 &4)))
D! Kr(a:Ad):Ev->RT:=(aZ (bZ 2 &0)
    (aZ (bZ 3 &1)
    (aZ (qX (b1 tB (d2 eG &3 #0)) (PQ a) 10000000000000000000000000000000000000000000000000000000000000000000000000000000000000000000000000000000000000000000000000000000000000000000000000000000000000000000000000000000000000000000000000000000000000000000000000000000000000000000000000000000000000000000000000000000000000000000000000000000000000000000000000000000000000000000000000000000000000000000000000000000000000000000000000000000000000000)
    (bU (dA bK (ak (d2 fW &0 &2) (ak (d2 fW &1 &2) aB)))))))
D! Am(a:Ad)(Dg:R!):Ev->RT:=(aZ (c7 (b1 tB (d2 cX (d2 eZ &0 #3) #0)) (bU (dA bK (ak (d2 eZ (d2 fW &0 #3) #9) (ak #1 aB)))) dj)
    (aZ (c7 (b1 tB (d2 cX (d2 eZ &0 #3) #1)) (bU (dA Dg (ak (d2 eZ (d2 fW &0 #3) #12) (ak (d2 aP #1 (d2 eZ (d2 fW &0 #36) #7)) aB)))) dj)
    (bU (dA Dg (ak (d2 eZ (d2 fW &0 #3) (d2 U5 #10 #9)) (ak (d2 aP #1 (d2 eZ (d2 lr &0 #48271) #999983)) aB))))))
D! Ks(a:Ad):Ev->RT:=(aZ (bZ 2 (d2 aP #1 (d2 eZ &0 #8)))
    (aZ (bZ 3 (d2 eZ (d2 fW &0 #8) &2))
    (bU (d2 aP (d2 aP (d2 lr #"q" &3) (d2 aO #"zbxk" (d2 eZ &1 #4))) (d2 lr #"q" (d2 mG (d2 mG &2 #1) &3))))))
D! Kz(a:Ad):Ev->RT:=(aZ (bZ 1 (dA qR (ak (d2 aO &0 #0) aB)))
    (aZ (c7 (b1 tB (d2 eG (d2 aO &0 #1) #1)) (bZ 1 (d2 aP (d2 aP &1 #"/") (dA qR (ak (d2 aO &0 #1) aB)))) dj)
    (bU &1)))
D! xQ(a:Ad)(vy vB IV:R!):Ev->RT:=(aZ (bZ 2 (d2 eZ &1 #8))
    (aZ (bZ 3 (d2 aP #1 (d2 eZ (d2 fW &1 #8) #9)))
    (aZ (c7 (b1 tB (d2 nZ &2 #2)) (aZ (bZ 4 (dA vy (ak (d2 fW &1 #8) aB)))
    (bU (dA bK (ak (dA bK (ak #"num" (ak &4 aB))) (ak (dA vB (ak &4 aB)) (ak #3 aB)))))) dj)
    (aZ (c7 (b1 tB (d2 cX &2 #2)) (bU (dA bK (ak (dA bK (ak #"here" aB)) (ak #"here" (ak #3 aB))))) dj)
    (aZ (c7 (b1 tB (d2 cX &2 #7)) (aZ (bZ 5 (dA IV (ak &0 (ak (d2 fW &1 #8) aB))))
    (bU (dA bK (ak (dA bK (ak #"at" (ak &5 aB))) (ak (d2 aP #"at " &5) (ak #3 aB)))))) dj)
    (aZ (bZ 6 (d2 aO (jh (λρ=>((ak #"back" (ak #"on" (ak #"ago" (ak #"until" aB)))) ρ).bind jM)) (d2 mG &2 #3)))
    (bU (dA bK (ak (dA bK (ak &6 (ak &3 aB))) (ak (d2 aP (d2 aP &6 #" ") (dA qR (ak &3 aB))) (ak #3 aB)))))))))))
D! Kw(a:Ad):Ev->RT:=(aZ (c7 (b1 tB (d2 nZ (d2 aO &0 #2) &1)) (bU (d2 aP (d2 aP (d2 aO &2 #0) (d2 aO &0 #1)) (d2 aO &2 #1))) dj)
    (bU (d2 aO &0 #1)))
D! KH(a:Ad)(kO:R!):Ev->RT:=(aZ (bZ 3 (d2 aP (d2 aP (d2 aP (d2 aP (dA kO (ak &0 (ak #1 (ak #"()" aB)))) #" ") &2) #" ") (dA kO (ak &1 (ak #2 (ak #"()" aB))))))
    (bU (dA bK (ak (dA bK (ak &2 (ak (d2 aO &0 #0) (ak (d2 aO &1 #0) aB)))) (ak &3 (ak #1 aB))))))
D! Ex(a:Ad)(vy vB kO:R!):Ev->RT:=(aZ (c7 (b1 tB (d2 cX (d2 eZ &1 #2) #0)) (bU (dA bK (ak (dA bK (ak #"abs" (ak (d2 aO &0 #0) aB))) (ak (d2 aP (d2 aP #"abs(" (d2 aO &0 #1)) #")") (ak #3 aB))))) dj)
    (aZ (bZ 2 (dA vy (ak (d2 fW &1 #2) aB)))
    (bU (dA bK (ak (dA bK (ak #"times" (ak &2 (ak (d2 aO &0 #0) aB)))) (ak (d2 aP (d2 aP (dA vB (ak &2 aB)) #" * ") (dA kO (ak &0 (ak #3 (ak #"()" aB))))) (ak #2 aB)))))))
D! Kh(a:Ad):Ev->RT:=(bU (dA bK (ak (dA bK (ak &2 (ak (d2 aO &0 #0) (ak (d2 aO &1 #0) aB)))) (ak (d2 aP (d2 aP (d2 aP (d2 aP (d2 aO &0 #1) #" ") &2) #" ") (d2 aO &1 #1)) (ak #4 aB)))))
D! Kq(a:Ad)(kO:R!):Ev->RT:=(aZ (bZ 3 (d2 aP #1 (dA yh (ak (d2 cX &2 #"and") aB))))
    (aZ (bZ 4 (d2 aP (d2 aP (d2 aP (d2 aP (dA kO (ak &0 (ak &3 (ak #"[]" aB)))) #" ") &2) #" ") (dA kO (ak &1 (ak (d2 aP &3 #1) (ak #"[]" aB))))))
    (bU (dA bK (ak (dA bK (ak &2 (ak (d2 aO &0 #0) (ak (d2 aO &1 #0) aB)))) (ak &4 (ak &3 aB)))))))
D! Km(a:Ad)(kO:R!):Ev->RT:=(bU (dA bK (ak (dA bK (ak #"not" (ak (d2 aO &0 #0) aB))) (ak (d2 aP #"not " (dA kO (ak &0 (ak #3 (ak #"[]" aB))))) (ak #3 aB)))))
D! Ky(a:Ad):Ev->RT:=(aZ (bZ 2 (d2 aP &1 (d2 fW (d2 aP &0 #1) #2)))
    (bU (d2 aP (d2 aP (d2 aP (d2 fW (d2 aP &0 #1) #2) (d2 eZ &0 #2)) (dA n6 (ak #0 (ak (d2 mG &2 #1) aB)))) (d2 lr #3 (dA yh (ak (d2 cX &2 #0) aB))))))
D! KC(a:Ad)(I8 IW pD Iz pF IK:R!)(b:Nat):aJ->aC->aU:=(aY (cU 3 (gq (zV 0) #"terms"))
    (aY (cU 4 (gq (zV 0) #"conds"))
    (aY (cU 5 (zD (d2 eZ &1 #16)))
    (aY (dH (gf (qm (b1 tB (d2 cT &5 (dA bK (ak #6 (ak #7 aB))))) (b1 tB (d2 eG (dA cj (ak &3 aB)) #1)))) (aY (cU 6 (jw 3))
    (jb 3 (zF I8 (aN (jw 3) (aN (zD &6) (aN (zD (d2 aO (jh (λρ=>((ak #"+" (ak #"-" aB)) ρ).bind jM)) (d2 mG &5 #6))) aW)))))) (dH (u6 (zB (b1 tB (d2 cT &5 (dA bK (ak #8 (ak #9 aB)))))) (u6 (gf (b1 tB (d2 eG (dA cj (ak &3 aB)) #0))) (il tB (z2 nZ (gq (zV 0) #"over") (zD #3))))) (aY (jb 3 (zF IW (aN (jw 3) (aN (zD (d2 fW &1 #16)) aW))))
    (uY (zV 0) #"over" (z2 aP (gq (zV 0) #"over") (zD #1)))) (dH (gf (qm (b1 tB (d2 cT &5 (dA bK (ak #10 (ak #11 aB))))) (b1 tB (d2 eG (dA cj (ak &3 aB)) #1)))) (aY (cU 6 (jw 3))
    (jb 4 (zF pD (aN (jw 3) (aN (zD &6) (aN (zD (d2 aO (jh (λρ=>((ak #"<" (ak #"=" aB)) ρ).bind jM)) (d2 mG &5 #10))) aW)))))) (dH (gf (qm (b1 tB (d2 cX &5 #12)) (b1 tB (d2 eG (dA cj (ak &4 aB)) #0)))) (jb 4 (zF Iz (aN (jw 4) aW))) (dH (gf (qm (b1 tB (d2 cT &5 (dA bK (ak #13 (ak #14 aB))))) (b1 tB (d2 eG (dA cj (ak &4 aB)) #1)))) (aY (cU 6 (jw 4))
    (jb 4 (zF pF (aN (jw 4) (aN (zD &6) (aN (zD (d2 aO (jh (λρ=>((ak #"and" (ak #"or" aB)) ρ).bind jM)) (d2 mG &5 #13))) aW)))))) (jb 3 (zD (dA IK (ak &2 (ak (d2 fW &1 #16) aB))))))))))
    (uY (zV 0) #"parts" (z2 aP (gq (zV 0) #"parts") (zD #1)))))))
D! zH(a:Ad)(pD pF:R!):aJ->aC->aU:=(aY (cU 5 (jw 2))
    (jb 3 (zF pD (aN (jw 2) (aN (zD &5) (aN (zD #"<") aW))))))
D! zK(a:Ad)(pD pF:R!):aJ->aC->aU:=(aY (cU 5 (jw 3))
    (jb 3 (zF pF (aN (jw 3) (aN (zD &5) (aN (zD &1) aW))))))
D! Ko(a:Ad)(pD pF:R!)(b:Nat):aJ->aC->aU:=(aY (cU 2 (gq (zV 0) #"terms"))
    (aY (cU 3 (gq (zV 0) #"conds"))
    (aY (cU 4 (zD (dA bK (ak (dA bK (ak #"here" aB)) (ak #"here" (ak #3 aB))))))
    (aY (dH (gf (b1 tB (d2 cX (d2 aP (dA cj (ak &2 aB)) (dA cj (ak &3 aB))) #0))) (jb 2 (zD &4)) f9)
    (aY (dH (gf (b1 tB (d2 cX (d2 eZ (dA cj (ak &2 aB)) #2) #1))) (jb 2 (zD &4)) f9)
    (aY (lB (gf (b1 tB (d2 eG (dA cj (ak &2 aB)) #0))) (zH a pD pF) 100)
    (aY (lB (gf (b1 tB (d2 eG (dA cj (ak &3 aB)) #1))) (zK a pD pF) 100)
    (fD (zR (d2 aO &3 #0))))))))))
D! tY(a:Ad)(xf:R!)(zu zq:Z!):aJ->aC->aU:=(aY (cU 5 (wX (gq (zV 3) #"conds")))
    (aY (cU 6 (zF n6 (aN (zF xf (aN (wX (gq (zV 3) #"terms")) (aN (zD &5) aW))) (aN (zF xf (aN (z2 aP (wX (gq (zV 3) #"terms")) (zD #1)) (aN (zD &5) aW))) aW))))
    (aY (dH (il tB (z2 eG (z2 aP (z2 aP (gq (zV 3) #"parts") (zD #1)) (zD &6)) (zD #30))) aU.bk f9)
    (fO (zZ zu (aN (zV 3) (aN (zD &4) (aN (zD &0) aW))))))))
D! Kl(a:Ad)(xf:R!)(zu zq:Z!)(b:Nat):aJ->aC->aU:=(aY (cU 3 (Ys [.inr "terms",.inr "conds",.inr "parts",.inr "over"] (aN (u9 (λρ=>(aB ρ).bind jM)) (aN (u9 (λρ=>(aB ρ).bind jM)) (aN (zD #0) (aN (zD #0) aW))))))
    (aY (CT (λρ=>(&1 ρ).bind jH) (hV 4) (tY a xf zu zq))
    (fD (zZ zq (aN (zV 3) (aN (zD &2) aW))))))
end WC
namespace P2
open PySem L2 PySem.Spec PySem.Calls
open PyProof.Rows hiding St
T! akI{P:Program}{w:World}{K:W.Frag}{mg mb:G!}{CX:lW}{k:Nat}{fa a:Addr}{fd:FuncData}{x:Str}{sp:Sp}{s₁:Shared}{vs:List Value}{ns:List Int}
    (KX:K.In s₁.heap)(hns:s₁.heap.Ns mainGlobals mg)(hb:s₁.heap.Ns builtinsNs mb)(hbb:∀x:Str,x≠"__name__"->mb x=bootBuiltins x)(hlim:s₁.heap.NoLimit)(hg:s₁.gens=#[])
    (ha:s₁.heap.get? a=some {cls:=.type "list",data:=.seq vs.toArray})(hi:IntsAre vs ns)(hl:ns.length<=sizeLine)(hr:dI k callerA)(hT:∀t∈j9 K,W.CodeHd s₁.heap t.2.1 t.2.2/\s₁.heap.get? t.2.2=some (W.tabObj #[]))(hN:W.noTabs K=true)
    (hB:BM mg s₁.heap)
    (F:∀base:Heap,K.In base->base.Ns mainGlobals mg->BM mg base->fM P w K mg base CX k fa fd [x] sp)(hbind:∀(s:Shared) (u:Value),BindsTo s fd \([u],[]) [(x,u)])
    (hsp:∀H:Hp,jZ K H->jy K H a (ns.map V.int)->sp [.ref a] H (λv _=>v=.bl true) λ_ _ _=>False)
    (hCX:∀H e s',CX [] H s₁ (λ_ _ _=>False) e s'->False):
    codeAny (model P w) callerA (.call (.ref fa) \([.ref a],[])) (λr s'=>r=.ok (.ret (.bool true))/\OldK s₁.heap s'.heap/\s'.os=s₁.os/\AllBare s'.gens) s₁:=by
 h! rv:=agd hi;h! akJ:=hi.length;h! na:∀t∈j9 K,t.2.2≠a:=λt ht e=>by
  h!:=(hT t ht).2;rw[e,ha]at this;c! this
 h! nK:∀t∈j9 K,K.lookup t.2.2=none:=λt ht=>by
  cases q:K.lookup t.2.2 with
  |none=>rfl
  |some o=>
   h! e1:=KX _ _ q;rw[(hT t ht).2]at e1;c! e1;h! h2:=List.all_eq_true.mp hN (t.2.2,W.tabObj #[]) (W.mem_of_lookupK q);~absurd (show false=true from h2) Bool.false_ne_true
 h! core:∀H:Hp,(∀b,H b=none\/(∃o xs,H b=some (.nP o (.lst xs))/\b=a/\K.lookup a=none)\/∃t∈j9 K,b=t.2.2/\H b=some (.iZ #[]))->(∀t∈j9 K,H t.2.2=some (.iZ #[]))->jy K H a (ns.map V.int)->fG P w H s₁.heap->
     codeAny (model P w) callerA (.call (.ref fa) \([.ref a],[])) (λr s'=>r=.ok (.ret (.bool true))/\OldK s₁.heap s'.heap/\s'.os=s₁.os/\AllBare s'.gens) s₁:=by
  intro H hO hTb hS hok;h! Qe:∀{b:Addr} {o:Obj},s₁.heap.get? b=some o->H b=none->(sI s₁.heap H).get? b=some o:=λe n=>ajL e n;h! GK:∀{b:Addr} {o:Obj} {es:Array DictEntry} {ep:Nat},s₁.heap.get? b=some o->o.data=.dict es ep->H b=none:=λ{b o es ep} e d=>by
   rcases hO b with z|⟨ob,xs,z,e',_⟩|⟨t,ht,e',z⟩;·~z
   ·subst e'
    rw[ha]at e;c! e;h! d':Data.seq vs.toArray _=Data.dict es ep:=d;c! d'
   ·subst e'
    rw[(hT t ht).2]at e;c! e;h! d':Data.fields #[]=Data.dict es ep:=d;c! d'
  h! Mj:∀{b:Addr} {m:G!},s₁.heap.Ns b m->(sI s₁.heap H).Ns b m:=λ{b m} \(o,es,ep,e,d,r)=>\(o,es,ep,Qe e (GK e d),d,r);h! hKb:K.In (sI s₁.heap H):=λb o e=>Qe (KX b o e) (by
   rcases hO b with z|⟨ob,xs,z,e',hk⟩|⟨t,ht,e',z⟩;· ~z
   · subst e';rw[hk]at e;c! e
   · subst e';rw[nK t ht]at e;c! e)
  h! hBb:BM mg (sI s₁.heap H):=by
   o!⟨bm,ob,b1,b2,b3,b4,b5,b6⟩:=hB;r!\(bm,ob,b1,b2,Qe b3 ?_,b4,b5,b6);rcases hO bm with z|⟨o2,xs,z,e',_⟩|⟨t,ht,e',z⟩;·~z
   ·subst e';rw[ha]at b3;c! b3;c! b6
   ·subst e';rw[(hT t ht).2]at b3;c! b3;c! b6
  h! hM:Mod K mg (sI s₁.heap H):=\(hKb,Mj hns,\(mb,Mj hb,hbb),let\(mc,h1,h2):=hlim;\(mc,Mj h1,h2));h! e0:wY P w K mg (sI s₁.heap H) callerA [] s₁ H:=\(rfl,hM,λb o e=>amd e,Nat.le_of_eq (ajM _ _),trivial,λb hb=>absurd (show b∈([]:List Addr)from hb) (by simp),hok,.of_eq hg);h! tb:jZ K H:=λt ht=>\(#[],hTb t ht,trivial,λpos cv e=>by cases e);r! codeAny_mono ((F _ hKb (Mj hns) hBb).run callerA [] s₁ H \([.ref a],[]) [.ref a] [.ref a] _ _ hr e0 (hbind s₁ (.ref a)) (.cons rfl .nil) (hsp H tb hS)) λr s' h=>?_;cases r with
  |error e=>~(hCX H e s' h).elim
  |ok fl=>
   cases fl with
   |next=>~False.elim h
   |brk=>~False.elim h
   |cont=>~False.elim h
   |ret u=>
    o!⟨v,H',os,bare,un,abJ,r',q⟩:=h;h! q':v=.bl true:=q;subst q';obtain rfl:u=Value.bool true:=r';h! kept:∀b o,s₁.heap.get? b=some o->s'.heap.get? b=some o\/∃t∈j9 K,b=t.2.2/\∃ps,s'.heap.get? b=some (W.tabObj ps):=λb o e=>by
     rcases hO b with z|⟨ob,xs,z,_⟩|⟨t,ht,e',z⟩;·~.inl (un.keep b o e z (by intro y;~absurd (show b∈([]:List Addr)from y) (by simp)) (by simp))
     ·h! z2:=un.oX b ob _ z
      o!⟨e1,_⟩:=hok b _ z;o!⟨e2,_⟩:=abJ b _ z2;rw[e]at e1;c! e1;~.inl e2
     ·o!⟨more,z2⟩:=un.o7 b #[] z
      h! e2:s'.heap.get? b=some {cls:=.none,data:=.fields (#[]++more)}:=abJ b _ z2;~.inr \(t,ht,e',_,e2)
    r!\(rfl,\(λb o e=>?_,λb o e=>?_),os,bare)
    ·rcases kept b o e with z|⟨t,ht,e',ps,z⟩
     ·~.inl z
     ·subst e'
      h! e2:=(hT t ht).2;rw[e]at e2;c! e2;~.inr (.inl \(((hT t ht).1.tab (hT t ht).2).isCodeTable,rfl,#[],ps,rfl,by rw[Array.empty_append];~z))
    ·rcases kept b o e with z|⟨_,_,_,ps,z⟩
     ·~\(o,z)
     ·~\(_,z)
 h! nz:¬∃t∈j9 K,a=t.2.2:=λ\(t,ht,e)=>na t ht e.symm;h! iZ:∀(H:Hp) (b:Addr),(∃t∈j9 K,b=t.2.2)->ir P w H s₁.heap b (.iZ #[]):=λH b \(t,ht,e)=>by subst e;~(hT t ht).2
 cases hk:K.lookup a with
 |some o=>
  h! e:=KX a o hk;rw[ha]at e;c! e;r! core (λb=>if(∃t∈j9 K,b=t.2.2)then some (.iZ #[])else none) (λb=>?_) (λt ht=>if_pos \(t,ht,rfl)) (.inr \(_,vs.toArray,_,hk,rfl,rfl,rfl,by rw[List.size_toArray,akJ];~hl,by simpa using rv)) (λb u e=>?_)
  ·by_cases z:∃t∈j9 K,b=t.2.2
   ·o!⟨t,ht,e⟩:=z
    ~.inr (.inr \(t,ht,e,if_pos \(t,ht,e)))
   ·~.inl (if_neg z)
  ·by_cases z:∃t∈j9 K,b=t.2.2
   ·h! e':=(if_pos z).symm.trans e
    c! e';~iZ _ b z
   ·h! e':=(if_neg z).symm.trans e
    c! e'
 |none=>
  r! core (λb=>if(∃t∈j9 K,b=t.2.2)then some (.iZ #[])else if b=a then some (.nP {cls:=.type "list",data:=.seq vs.toArray} (.lst (ns.map V.int)))else none) (λb=>?_) (λt ht=>if_pos \(t,ht,rfl)) (.inl (.inr \({cls:=.type "list",data:=.seq vs.toArray},(if_neg nz).trans (if_pos rfl)))) (λb u e=>?_)
  ·by_cases z:∃t∈j9 K,b=t.2.2
   ·o!⟨t,ht,e⟩:=z
    ~.inr (.inr \(t,ht,e,if_pos \(t,ht,e)))
   ·by_cases y:b=a
    ·~.inr (.inl \(_,_,(if_neg z).trans (if_pos y),y,hk))
    ·~.inl ((if_neg z).trans (if_neg y))
  ·by_cases z:∃t∈j9 K,b=t.2.2
   ·h! e':=(if_pos z).symm.trans e
    c! e';~iZ _ b z
   ·by_cases y:b=a
    ·h! e':=((if_neg z).trans (if_pos y)).symm.trans e
     c! e';subst y;~\(ha,by rw[List.length_map];~hl,vs,_,rv,ha)
    ·h! e':=((if_neg z).trans (if_neg y)).symm.trans e
     c! e'
T! arp{p:Program}{loose:List Str}{alA:ExcName->Option Value}{mg mb:G!}{h:Heap}{K:W.Frag}(T:Top p loose alA mg mb h)(X:K.In h)(hq:(j9 K).all (λt=>((recsOf p).find? λe=>e.name==t.1).isSome)=true):
    ∀t∈j9 K,W.CodeHd h t.2.1 t.2.2/\h.get? t.2.2=some (W.tabObj #[]):=λt ht=>by
 h! h1:=List.all_eq_true.mp hq t ht;o!⟨d,hd⟩:=Option.isSome_iff_exists.mp h1;u! j9 at ht;o!⟨x,_,e⟩:=List.mem_filterMap.mp ht;split at e
 ·o!⟨q,e1,e2⟩:=Option.map_eq_some_iff.mp e
  subst e2;~W.tab_of T X hd e1
 ·c! e
end P2
namespace P2
open PySem L2
section
variable{X:Cx}{E:XK}
end
end P2
namespace P2
open PySem L2
section
variable{X:Cx}{E:XK}
T! alF:xx X "str.count" (λx xs H Q=>∃i j,x=.str i/\xs=[.str j]/\Q (.int (Txt.count i j)) H):=by
 intro pins s σ H x xs v us Q I rx rs h;o!⟨i,j,rfl,rfl,q⟩:=h;o!⟨t,rfl⟩:=rx;o!⟨u,rfl,t',rfl⟩:=vals1 rs;~SC.count \(.int _,H,I.tok _,\(_,rfl),q)
D! iR:D->R!
 |.str i,[.str j]=>.ok (.int (Txt.count i j))
 |_,_=>.bad
T! Bl:Dp X E "str" "str.count" iR:=by
 r!\(_,alF,λal H x xs d ds Q fr rx rs h=>?_);u! iR at h;split at h
 ·c! rx
  o!⟨v,rfl,q⟩:=bz.one rs;c! q;~\(_,_,rfl,rfl,h H (.refl H) _ (.int _))
 ·~h.elim
end
end P2
namespace P2
open PySem
T! VM{M:Model}{Γ:Ctx}{p:Pos}{t:Sem Fin}{fs:List Frame}{s:Shared}{e:End}{s':Shared}(h:Runs M Γ p t fs s e s'):s.toks<=s'.toks:=by
 induction h with
 |fresh _ ih=>~Nat.le_trans (Nat.le_succ _) ih
 |call _ _ gW iI=>~Nat.le_trans gW iI
 |resumeFresh _ _ _ _ gW iI=>~Nat.le_trans gW iI
 |resumeSuspended _ _ _ _ gW iI=>~Nat.le_trans gW iI
 |segRet _ _ gW iI=>~Nat.le_trans gW iI
 |segGen _ _ gW iI=>~Nat.le_trans gW iI
 |segSuspGen _ _ _ _ gW iI=>~Nat.le_trans gW iI
 |done=>~Nat.le_refl _
 |raise=>~Nat.le_refl _
 |yield=>~Nat.le_refl _
 |again _ _ ih=>~ih
 |rule _ ih=>~ih
 |«at» _ ih=>~ih
 |load _ _ ih=>~ih
 |update _ _ ih=>~ih
 |loadIfAlive _ ih=>~ih
 |point _ ih=>~ih
 |alloc _ ih=>~ih
 |ask _ ih=>~ih
 |choose _ _ ih=>~ih
 |os _ ih=>~ih
 |handled _ ih=>~ih
 |genState _ _ ih=>~ih
 |stack _ ih=>~ih
 |thread _ ih=>~ih
 |newGen _ ih=>~ih
 |callSusp _ ih=>~ih
 |resumeJustStarted _ _ _ ih=>~ih
 |resumeThrowFresh _ _ ih=>~ih
 |resumeRunning _ _ ih=>~ih
 |resumeFinished _ _ ih=>~ih
 |segSuspOut _ _ ih=>~ih
T! arN{M:Model}{Γ:Ctx}{p:Pos}{g:Nat}{r:Resume}{s:Shared}{res:GenResult}{s':Shared}(h:Wakes M Γ p g r s res s'):s.toks<=s'.toks:=by
 u! Wakes at h;cases q:s.gens[g]? with
 |none=>rw[q]at h;~h.elim
 |some st=>
  rw[q]at h;cases st with
  |fresh c=>
   cases r with
   |send v=>c! v<;>first|(o!⟨rfl,rfl⟩:=h;~Nat.le_refl _)|(o!⟨e1,s1,h1,_,_,rfl⟩:=h;h!:=VM h1;~this)
   |throw x=>o!⟨rfl,rfl⟩:=h;~Nat.le_refl _
  |suspended k0 l0 c0 p0 fs cl=>o!⟨e1,s1,h1,_,_,rfl⟩:=h;h!:=VM h1;~this
  |running=>o!⟨rfl,rfl⟩:=h;~Nat.le_refl _
  |finished=>o!⟨rfl,rfl⟩:=h;~Nat.le_refl _
T! wp_toks{X:Type}{M:Model}{Γ:Ctx}{n:Nat}(t:Sem X):∀{Q:X->Pos->Shared->Prop} {E:Value->Pos->Shared->Prop} {p:Pos} {s:Shared},n<=s.toks->Sem.wp M Γ t Q E p s->Sem.wp M Γ t (λa p' s'=>n<=s'.toks/\Q a p' s') (λe p' s'=>n<=s'.toks/\E e p' s') p s:=by
 induction t with
 |pure x=>~λhn h=>\(hn,h)
 |raise v=>~λhn h=>\(hn,h)
 |unsupported|finish|yield|fork|await|register=>~λ_ h=>h
 |rule _ k ih|«at» _ k ih|loadIfAlive _ k ih|point _ k ih|ask k ih|handled _ k ih|stack k ih|thread k ih=>~λhn h=>ih _ hn h
 |alloc _ k ih=>intro Q E p s hn h;~ih _ (s:={s with heap:=s.heap.push _}) hn h
 |os _ _ k ih=>intro Q E p s hn h;~ih _ (s:={s with os:=_}) hn h
 |newGen _ k ih=>intro Q E p s hn h;~ih _ (s:={s with gens:=_}) hn h
 |fresh k ih=>intro Q E p s hn h;~ih _ (s:={s with toks:=s.toks+1}) (Nat.le_trans hn (Nat.le_succ _)) h
 |load a _ k ih=>~λhn \(o,ho,h)=>\(o,ho,ih _ hn h)
 |genState a k ih=>~λhn \(o,ho,h)=>\(o,ho,ih _ hn h)
 |update a _ f k ih=>intro Q E p s hn \(ha,h);~\(ha,ih _ (s:={s with heap:=_}) hn h)
 |choose _ _ k ih=>intro Q E p s hn \(ha,h);~\(ha,ih _ (s:={s with drawn:=_}) hn h)
 |call c h g l k ih=>~λhn \(r,s',h1,h2)=>\(r,s',h1,ih r (Nat.le_trans hn (VM h1)) h2)
 |resume g r l k ih=>~λhn \(res,s',hw,h)=>\(res,s',hw,ih _ (Nat.le_trans hn (arN hw)) h)
T! wpAny_toks{X:Type}{M:Model}{A:Around}{t:Sem X}{Q:X->Shared->Prop}{E:B!}{s:Shared}(h:wpAny M A t Q E s):
    wpAny M A t (λa s'=>s.toks<=s'.toks/\Q a s') (λe s'=>s.toks<=s'.toks/\E e s') s:=λΓ p hΓ=>wp_toks t n! (h Γ p hΓ)
end P2
set_option maxHeartbeats 400000
namespace L2
open PySem PySem.Spec PyProof.Rows
section
variable{X:Cx}{pins:L!}{σ:St}{H:Hp}{s:Shared}
T! aft{M:Model}{A:Around}{E:B!}{i:Nat}{x:Str}{v:V}{u:Value}{Q:Unit->Shared->Prop}(I:I!)(hN:X.N.Nodup)(hi:X.N[i]?=some x)(hk:X.env.scope.names.lookup x=some .local)(r:RelV v u)
    (h:∀s' m',Inv X pins (σ.set i (some v)) H s'->s'.heap.Ns X.env.locals m'->m' x=some u->s.toks<=s'.toks->Heap.SameBut X.env.locals s.heap s'.heap->Q () s'):wpAny M A (storeName X.env x u) Q E s:=by
 o!⟨m,hn,hl⟩:=id I.loc;h! Rx:(X.env.scope.kind==.class||(X.env.scope.kind==.module&&X.env.locals !=X.env.globals))=false:=by rw[I.ok.kind];rfl
 h! K9:i<σ.length:=by rw[I.len];~(List.getElem?_eq_some_iff.mp hi).1
 h! qt:=I.qt;h! tracked:∀{a:Addr} {h':Heap},(∃o,s.heap.get? a=some o/\H a=none)->Heap.SameBut a s.heap h'->fG X.prog X.w H h':=λ{a h'} ha hs b ob e=>by
  o!⟨_,_,hfree⟩:=ha;r!(I.hok b ob e).uQ (λc w' hc q=>(hs.2 c ?_).trans q) (λ_ q=>q) λ_ _ q=>q
  rintro rfl
  rcases hc with rfl|hc;·rw[hfree]at e;c! e
  ·rw[hfree]at hc;c! hc
 r! wpAny_storeName_local hk hn (λh' v7 hs=>?_) Rx;o!⟨oL,_,_,RM,_⟩:=id hn;r! h _ _ \(I.ok,I.os,I.bare,\(λb o e n hb hx=>?_,λb o e n hb hx=>?_,I.base.free,λb o e hx=>?_,I.base.tups,I.base.oX,I.base.o7),\(_,v7,λj y v' e1 e2 e3=>?_),λy c e=>?_,I.free,I.pJ,λp hp=>?_,tracked \(oL,RM,I.free) hs,by simpa using I.len) v7 (by simp) (Nat.le_succ _) hs;·~(hs.2 b (Nat.ne_of_lt (Nat.lt_of_lt_of_le (Heap.lt_size e) I.ok.above))).trans (I.base.keep b o e n hb hx)
 ·o!⟨sl,e1⟩:=I.base.slot b o e n hb hx
  ~\(sl,(hs.2 b (Nat.ne_of_lt (Nat.lt_of_lt_of_le (Heap.lt_size e) I.ok.above))).trans e1)
 ·o!⟨o',e1⟩:=I.base.there b o e hx
  ~\(o',(hs.2 b (Nat.ne_of_lt (Nat.lt_of_lt_of_le (Heap.lt_size e) I.ok.above))).trans e1)
 ·by_cases hj:j=i
  ·subst hj
   rw[hi]at e1;c! e1;rw[List.getElem?_set_self K9]at e2;c! e2;~\(u,r,.inl \(hk,by simp))
  ·rw[List.getElem?_set_ne (Ne.symm hj)]at e2
   o!⟨u',r',q⟩:=hl j y v' e1 e2 e3;r!\(u',r',?_);rcases q with⟨k,e⟩|⟨k,c,e,z⟩
   ·r! .inl \(k,?_)
    h!:y≠x:=λe=>hj (Td hN e1 (e▸hi));simp[this,e]
   ·~.inr \(k,c,e,z.sameBut hs (qt y c e))
 ·o!⟨w',z⟩:=I.cell y c e
  ~\(w',z.sameBut hs (qt y c e))
 ·o!⟨e,n,ne,nf,d⟩:=I.pin p hp
  ~\((hs.2 p.1 ne).trans e,n,ne,nf,d)
T! Z4{prog:Program}{w:World}{A:Around}{E:B!}{s:Shared}{x y:Str}{t u:Tok}{Q:B!}(hx:(x.length==0)=false)(hy:(y.length==0)=false)(hl:(x++y).length<=sizeLine)(h:Q (.str (x++y) s.toks) {s with toks:=s.toks+1}):
    wpAny N! A (binaryOp .Add (.str x t) (.str y u)) Q E s:=by
 r! P.add_str ?_;rw[hx,hy];~\(hl,h)
end
D! uL(p q:Str):List Nat->Str->Option Str
 |[],x=>some x
 |c::r,x=>if x.length<=1000000 then uL p q r (Txt.replace x (p++\(#[c])++q) \(#[c]))else none
section
variable{X:Cx}
D! aqO(iS iT:Nat)(p q txt:Str):TS:=λD σ H=>∃x z,σ[iT]?=some (some (.str x))/\uL p q txt.cps.toList x=some z/\∀c,txt.cps.toList.getLast?=some c->D.nx ((σ.set iS (some (.str \(#[c])))).set iT (some (.str z))) H
T! aou{S T:Str}{iS iT:Nat}{p q txt:Str}{j0 j1 j2:_}{p0 p1 p2 p3 p4 p5 p6 p7 p8 p9 pos pos' BJ qs:Pos}(hc:X.calm=true)(hN:X.N.Nodup)(K8:X.N[iS]?=some S)(hiT:X.N[iT]?=some T)
    (hkS:X.env.scope.names.lookup S=some .local)(Ay:X.env.scope.names.lookup T=some .local)(hne:iS≠iT)
    (hp1:(p.length==0)=false)(hq1:(q.length==0)=false)(hpl:p.length+1+q.length<=1000)(hasc:txt.cps.all (· <128)=true)(hnil:txt.cps.toList≠[])
    (hdS:(S==("__debug__":Str))=false)(hdT:(T==("__debug__":Str))=false)
    (hs:∀x,foldedSetIterable (.Constant (.str txt) j0 p0) X.env x=pure x:=by intro _;rfl)
    (hsw:swapsWith (.Call (.Attribute (.Name T p1) "replace" p2) [.BinOp (.BinOp (.Constant (.str p) j1 p3) .Add (.Name S p4) p5) .Add (.Constant (.str q) j2 p6) p7,.Name S p8] [] p9) (some (.Name T BJ)) qs.line X.env=pure false:=by rfl)
    (hbase:attributeBase (.Name T p1) "replace" X.env (eval (.Name T p1) X.env)=eval (.Name T p1) X.env:=by rfl)(hline:(p2.endLine==p9.line)=true:=by rfl):
    PS X (.For (.Name S pos) (.Constant (.str txt) j0 p0) [.Assign [.Name T BJ] (.Call (.Attribute (.Name T p1) "replace" p2) [.BinOp (.BinOp (.Constant (.str p) j1 p3) .Add (.Name S p4) p5) .Add (.Constant (.str q) j2 p6) p7,.Name S p8] [] p9) qs] [] pos') (aqO iS iT p q txt):=by
 intro pins s σ H D I h;o!⟨x0,z0,hx0,hz0,ajJ⟩:=h;h! asi:iS<σ.length:=by rw[I.len];~(List.getElem?_eq_some_iff.mp K8).1
 h! ajK:iT<σ.length:=by rw[I.len];~(List.getElem?_eq_some_iff.mp hiT).1
 r! wpAny_For (Calls.Constant_str ?_) hs;h! I1:Inv X pins σ H {s with toks:=s.toks+1}:=I.tok _;r! wpAny_pyIter_ascii hasc ?_;h! fp:tQ X pins H s.heap.objs.size:=I1.Ep n! (I1.hok.fresh n!);o!⟨f0,f1,f2,f3,f4,f5⟩:=fp;h! I2:=I1.kept (t':=s.toks+1) (h':=s.heap.push {cls:=.type "str_ascii_iterator",data:=.fields #[.str txt s.toks,.int 0 0]}) λb o e=>Heap.get?_push_of_some _ e;generalize hit:s.heap.objs.size=it at*;generalize htk:s.toks=tk at*
 r! codeAny_forLoop_any (λn s'=>∃i σ' x,Inv X pins σ' H s'/\s'.heap.IsStrIter it "str_ascii_iterator" txt tk i/\i+n=txt.cps.size/\0<s'.toks/\σ'[iT]?=some (some (.str x))/\uL p q (txt.cps.toList.drop i) x=some z0/\
  (∀c y,(σ'.set iS c).set iT y=(σ.set iS c).set iT y)/\(i=0\/∃c,txt.cps.toList[i - 1]?=some c/\σ'=(σ.set iS (some (.str \(#[c])))).set iT (some (.str x)))) ?_ txt.cps.size \(0,σ,x0,I2,\(_,by rw[<-hit];~Heap.get?_push_size _ rfl,rfl,rfl),o?,Nat.succ_pos _,hx0,by simpa using hz0,λ_ _=>rfl,.inl rfl)
 rintro n s3 ⟨i,lC,x,I3,yQ,hin,htp,hxT,Lf,hσ,ajI⟩
 by_cases ux:i<txt.cps.size
 ·h! hci:txt.cps[i]?=some txt.cps[i]:=by simp[ux]
  h! hcl:txt.cps.toList[i]?=some txt.cps[i]:=by simp[ux]
  generalize K5:txt.cps[i]=c at*;r! wpAny_pyNext_ascii_item yQ (c:=c) hci λh' lU sb=>?_;h! I4:Inv X pins lC H {s3 with heap:=h',toks:=s3.toks+1}:=I3.turned (λb o hb e=>(sb.2 b hb).trans e) f0 f1 f3 f4 f5;dsimp only;o!⟨oi,ei,ci,di⟩:=id lU;r! Ao (s:={s3 with heap:=h',toks:=s3.toks+1}) ei ci di d? ?_;r! wpAny_assign_Name (aft I4 hN K8 hkS (v:=.str \(#[c])) \(_,rfl) λs5 m5 I5 hn5 hm5 ht5 hs5=>?_);h! asm:s3.toks+1<=s5.toks:=ht5;r! wpAny_execs_cons ?_;r! wpAny_Assign_Name ?_ hsw
  h! KZ:(lC.set iS (some (V.str \(#[c]))))[iT]?=some (some (.str x)):=by rw[List.getElem?_set_ne hne];~hxT
  o!⟨m6,hn6,hl6⟩:=id I5.loc;o!⟨uT,rT,lk⟩:=hl6 iT T _ hiT KZ (.inl Ay);o!⟨tT,rfl⟩:=rT;h! hmT:m6 T=some (.str x tT):=by
   rcases lk with⟨_,z⟩|⟨z,_⟩;·~z
   ·rcases z with z|z<;>(rw[show X.env.kindOf T=some .local from Ay]at z;c! z)
  r! wpAny_Call_method_late hbase rfl hline rfl (wpAny_Name (wpAny_loadName_local I5.ok.kind Ay hn6 hmT ?_) hdT)
  h! ldS:∀{k:Nat} {ps:Pos} {E:B!} {Q:B!},Q (.str \(#[c]) s3.toks) {s5 with toks:=k}->wpAny M! X.A (eval (.Name S ps) X.env) Q E {s5 with toks:=k}:=λ{k ps E Q} hq=>
   wpAny_Name (wpAny_loadName_local (s:={s5 with toks:=k}) I5.ok.kind hkS hn5 hm5 hq) hdS
  r!\("str","str.replace",PySem.F.plainAttrs_str,PySem.F.slot_str_replace,PySem.F.type_str_replace,typeIs_str _ _ _,(λa e=>nomatch e),?_);r! Calls.callWith_builtin rfl (Calls.evalArgs_plain ?_);show wpAny _ _ (spliced [(false,eval (.BinOp (.BinOp (.Constant (.str p) j1 p3) .Add (.Name S p4) p5) .Add (.Constant (.str q) j2 p6) p7) X.env),(false,eval (.Name S p8) X.env)]) _ _ _;r! Calls.spliced_cons ?_;h! l1:((\(#[c]):Str).length==0)=false:=rfl;h! lc:(\(#[c]):Str).length=1:=rfl;h! lp:(p++\(#[c]):Str).length=p.length+1:=by rw[Str.length_append,lc]
  h! lpq:(p++\(#[c])++q:Str).length=p.length+1+q.length:=by rw[Str.length_append,lp]
  h! sl:=sizeLine_eq;r! wpAny_BinOp (wpAny_BinOp (Calls.Constant_str (ldS (Z4 hp1 l1 (by rw[lp];om) ?_))));r! Calls.Constant_str (Z4 (by rw[lp];simp) hq1 (by rw[lpq];om) ?_);r! Calls.spliced_cons (ldS ?_);r! Calls.spliced_nil ?_;h! Ba:uL p q (c::txt.cps.toList.drop (i+1)) x=some z0:=by
   h! e:=List.drop_eq_getElem_cons (l:=txt.cps.toList) (i:=i) (by simpa using ux);h! e2:txt.cps.toList[i]'(by simpa using ux)=c:=by simpa using K5
   rw[e,e2]at Lf;~Lf
  u! uL at Ba;by_cases Gq:x.length<=1000000
  ·rw[if_pos Gq]at Ba
   h! lcq:(p++\(#[c])++q:Str)≠\(#[c]):=λe=>by
    h!:=congrArg Str.length e;rw[lpq,lc]at this;h!:p.length≠0:=by simpa using hp1
    om
   obtain⟨z1,R1⟩:∃z1,z1=Txt.replace x (p++\(#[c])++q) \(#[c]):=\(_,rfl);rw[<-R1]at Ba;r! wpAny_mono (P2.wpAny_toks (SC.replace (Q:=λv s'=>∃t' k,v=.str z1 t'/\s'={s5 with toks:=k}) (by show s5.toks+1+1+1≠0;om) (by show s3.toks≠0;om) (by show s5.toks+1+1+1≠s3.toks;om) (by simpa using lcq) (by rw[lc];om) λt' k=>\(t',k,by rw[R1],rfl))) (λv s' hv=>?_) (λ_ _ h=>h.2);o!⟨xZ,t',k,rfl,rfl⟩:=hv;h! hk1:s5.toks+1+1+1+1<=k:=xZ;h! I6:Inv X pins (lC.set iS (some (V.str \(#[c])))) H {s5 with toks:=k}:=I5.tok k;clear R1;r! aft I6 hN hiT Ay (v:=.str z1) (u:=.str z1 t') \(t',rfl) λs7 m7 I7 hn7 hm7 ht7 hs7=>?_;r! wpAny_execs_nil ?_;h! iti:s7.heap.IsStrIter it "str_ascii_iterator" txt tk (i+1):=by
    o!⟨oi,e1,e2⟩:=lU;r!\(oi,?_,e2);rw[hs7.2 it f1];show s5.heap.get? it=some oi;rw[hs5.2 it f1];~e1
   r!\(n - 1,o?,i+1,_,_,I7,iti,o?,?_,List.getElem?_set_self (by rw[List.length_set];rw[I3.len,<-I.len];~ajK),Ba,λc' y=>?_,.inr \(c,by rw[Nat.add_sub_cancel];~hcl,hσ _ _))
   ·h!:k<=s7.toks:=ht7
    om
   ·rw[List.set_comm _ c' (λe=>hne e.symm),List.set_set,List.set_set]
    ~hσ _ _
  ·rw[if_neg Gq]at Ba;c! Ba
 ·h! hi:i=txt.cps.size:=by om
  r! wpAny_pyNext_ascii_end (I3.ok.hd hc) yQ (by simp[hi]) λh' eb=>?_;r! wpAny_execs_nil \(lC,H,I3.turned (t':=s3.toks) (λb o hb e=>eb b o hb e) f0 f1 f3 f4 f5,?_);rw[hi,List.drop_eq_nil_of_le (by simp)]at Lf;c! Lf;rcases ajI with h0|⟨c,h1,h2⟩
  ·exfalso
   apply hnil;rw[hi]at h0;simpa using h0
  ·rw[h2]
   r! ajJ c ?_;rw[List.getLast?_eq_getElem?,<-h1,hi];simp
end
end L2
namespace P2
open PySem L2
section
variable{X:Cx}{E:XK}
D! V1(iS iT:Nat)(p q txt:Str):Ev->RT:=λρ=>match ρ[iT]? with
 |some (.sh (.str x))=>(match uL p q txt.cps.toList x,txt.cps.toList.getLast? with
  |some z,some c=>if iS<ρ.length then .nx ((ρ.set iS (.sh (.str \(#[c])))).set iT (.sh (.str z)))else .bad
  |_,_=>.bad)
 |_=>.bad
T! aiV{S T:Str}(iS iT:Nat){p q txt:Str}{j0 j1 j2:_}{p0 p1 p2 p3 p4 p5 p6 p7 p8 p9 pos pos' BJ qs:Pos}(hc:X.calm=true)(hN:X.N.Nodup)(K8:X.N[iS]?=some S)(hiT:X.N[iT]?=some T)
    (hkS:X.env.scope.names.lookup S=some .local)(Ay:X.env.scope.names.lookup T=some .local)(hne:iS≠iT)
    (hp1:(p.length==0)=false)(hq1:(q.length==0)=false)(hpl:p.length+1+q.length<=1000)(hasc:txt.cps.all (· <128)=true)(hnil:txt.cps.toList≠[])
    (hdS:(S==("__debug__":Str))=false)(hdT:(T==("__debug__":Str))=false)
    (hs:∀x,foldedSetIterable (.Constant (.str txt) j0 p0) X.env x=pure x:=by intro _;rfl)
    (hsw:swapsWith (.Call (.Attribute (.Name T p1) "replace" p2) [.BinOp (.BinOp (.Constant (.str p) j1 p3) .Add (.Name S p4) p5) .Add (.Constant (.str q) j2 p6) p7,.Name S p8] [] p9) (some (.Name T BJ)) qs.line X.env=pure false:=by rfl)
    (hbase:attributeBase (.Name T p1) "replace" X.env (eval (.Name T p1) X.env)=eval (.Name T p1) X.env:=by rfl)(hline:(p2.endLine==p9.line)=true:=by rfl):
    DS X E (.For (.Name S pos) (.Constant (.str txt) j0 p0) [.Assign [.Name T BJ] (.Call (.Attribute (.Name T p1) "replace" p2) [.BinOp (.BinOp (.Constant (.str p) j1 p3) .Add (.Name S p4) p5) .Add (.Constant (.str q) j2 p6) p7,.Name S p8] [] p9) qs] [] pos') (V1 iS iT p q txt):=by
 r!\(_,aou hc hN K8 hiT hkS Ay hne hp1 hq1 hpl hasc hnil hdS hdT hs hsw hbase hline,λP H0 al H σ ρ D s h=>?_);u! V1 at h;split at h
 ·rename_i x hx
  split at h
  ·rename_i z c hz hcl
   split at h
   ·rename_i ux
    o!⟨v,e1,rv⟩:=s.sh iT _ hx;c! rv;r!\(x,z,e1,hz,λc' xY=>?_);rw[hcl]at xY;c! xY;h! hT:iT<ρ.length:=(List.getElem?_eq_some_iff.mp hx).1;~h al H _ .refl ((s.set ux (.str _)).set (by rw[List.length_set];~hT) (.str _))
   ·~h.elim
  ·~h.elim
 ·~h.elim
end
end P2
namespace L2
open PySem PySem.Spec PyProof.Rows Fx
section
variable{X:Cx}
T! aox{body mY:List Stmt}{b0:Stmt}{tb:TB}{ts:TS}{x:Str}{C:Addr}{mt:Addr->Prop}{np RN pos:Pos}(hX:X.stack=X.env::X.outer)(hfr:X.env.frame=some X.env.locals)
    (hb:BX X body tb)(hs:∀ea,lJ (X.mY ea).sO (b0::mY) ts)
    (hmt:∀(h:Heap) (g:Array GenState) (d:Drawn) (tk:Nat) (os:OsState) (e Ce:Addr) (oe:Obj) (M:Model) (A:Around) (E:B!) (Q:Bool->Shared->Prop),X.K.In h->mt Ce->h.get? e=some oe->oe.cls=.ref Ce->Q true \(h,g,d,tk,os)->wpAny M A (excMatches (.ref e) (.ref C)) Q E \(h,g,d,tk,os))
    (hg:Gl X x)(hm:X.mg x=some (.ref C))(hdb:E!:=by decide):
    PS X (.Try body [.ExceptHandler (some (.Name x np)) none (b0::mY) RN] [] [] pos) (λD σ H=>tb D (λeQ cls _ H1=>∃Ce,cls=.ref Ce/\mt Ce/\ts {nx:=D.nx,rt:=D.rt} eQ H1) σ H):=by
 intro pins s σ H D I h;r! wpAny_Try_except (wpAny_mono (hb pins s σ H D _ I h) (λfl s1 q1=>?_) (λex s1 q1=>?_))
 ·cases fl with
  |next=>~wpAny_execs_nil q1
  |brk=>~q1
  |cont=>~q1
  |ret u=>~q1
 ·o!⟨eQ,ea,cls,d,H1,B,rfl,fl,cl,en,na,Ce,rfl,hce,hts⟩:=q1
  rw[hX]at fl;r! abe (outer:=X.outer) (I.ok.frames.trans (congrArg some hX)) hfr fl λh1 x1 u1=>Rz (s:={s1 with heap:=h1}) x1 λh2 x2 u2=>?_;o!⟨a0,st2,_⟩:=id x2.1;h! I2:Inv X pins eQ H1 {s1 with heap:=h2}:=cl h2 st2 (u1.trans u2);o!⟨⟨a1,fw⟩,_⟩:=id x2;o!⟨ob,hob,ajZ⟩:=fw.there;r! wpAny_handleBy_cons (codeAny_handlers_test (ym (X:=X.mY ea) (I2.mY ea) hg hm ?_ hdb)) (by intro z;c! z);o!⟨hp,g,dr,tk,os⟩:=s1;r! hmt h2 g dr tk os ea Ce ob _ _ _ _ I2.eY hce hob ajZ (codeAny_handlers_suite ?_);r! ajk (s:=\(h2,g,dr,tk,os)) x2 λh3 x3 u3=>?_;o!⟨a3,yQ,_⟩:=id x3.1;h! I3:Inv X pins eQ H1 \(h3,g,dr,tk,os):=cl h3 yQ ((u1.trans u2).trans u3);r! wpAny_mono (hs ea pins \(h3,g,dr,tk,os) eQ H1 {nx:=D.nx,rt:=D.rt} ((I3.mY ea).pW _) hts) (λf s4 q4=>?_) (λ_ _ z=>z.elim);h! q5:=SP.Cz I.ok q4;cases f with
  |next=>~q5
  |brk=>o!⟨_,_,_,z⟩:=q5;~z.elim
  |cont=>o!⟨_,_,_,z⟩:=q5;~z.elim
  |ret u=>~q5
end
end L2
namespace P2
open PySem L2
section
variable{X:Cx}{E:XK}
D! aaz:RT->RT
 |.nx ρ=>.nx ρ
 |.rt d=>.rt d
 |_=>.bad
D! Hz(mt:Addr->Bool)(f:Ev->R Ev)(g:Ev->RT):Ev->RT:=λρ=>match f ρ with
 |.ok cP=>.nx cP
 |.ex c _ _=>if mt c=true then aaz (g ρ)else .bad
 |.bad=>.bad
T! aiY{body mY:List Stmt}{b0:Stmt}{fb:Ev->R Ev}{g:Ev->RT}{x:Str}{C:Addr}{np RN pos:Pos}(mt:Addr->Bool)(hX:X.stack=X.env::X.outer)(hfr:X.env.frame=some X.env.locals)
    (hb:DB X body fb)(hs:∀ea,rB (X.mY ea).sO (λ_ _ _=>False) (b0::mY) g)
    (hmt:∀(h:Heap) (g:Array GenState) (d:Drawn) (tk:Nat) (os:OsState) (e Ce:Addr) (oe:Obj) (M:Model) (A:Around) (E:B!) (Q:Bool->Shared->Prop),X.K.In h->mt Ce=true->h.get? e=some oe->oe.cls=.ref Ce->Q true \(h,g,d,tk,os)->wpAny M A (excMatches (.ref e) (.ref C)) Q E \(h,g,d,tk,os))
    (hg:Gl X x)(hm:X.mg x=some (.ref C))(hdb:E!:=by decide):
    DS X E (.Try body [.ExceptHandler (some (.Name x np)) none (b0::mY) RN] [] [] pos) (Hz mt fb g):=by
 o!⟨tb,pb,rb⟩:=hb;r!\(_,aox (mt:=λc=>mt c=true) (ts:=λD σ H=>∃P H0 al ρ,RS X.K P H0 al H σ ρ/\gP X.K P H0 (λ_ _ _=>False) D al H (g ρ)) hX hfr pb (λea=>?_) hmt hg hm hdb,λP H0 al H σ ρ D s h=>?_)
 ·o!⟨t,p,r⟩:=hs ea
  intro pins s1 eQ H1 D1 I1 h1;o!⟨P,H0,al,ρ,s,h⟩:=h1;~p pins s1 eQ H1 D1 I1 (r P H0 al H1 eQ ρ D1 s h)
 ·r! rb _ _ _ _ _ _ _ _ s ?_
  u! Hz at h;cases q:fb ρ with
  |bad=>rw[q]at h;~h.elim
  |ok cP=>rw[q]at h;~λH1 s1 σ' s'=>h al H1 σ' (.of s1) s'
  |ex c ns ds=>
   rw[q]at h;intro dx H1 s1 xr;dsimp only at h;by_cases z:mt c=true
   ·rw[if_pos z]at h
    r!\(c,rfl,z,P,H0,al,ρ,s.grow s1,?_);cases q2:g ρ with
    |nx mK=>rw[q2]at h;~λaG H' σ' x' s'=>h aG H' _ ((Xt.of s1).trans x') s'
    |rt d=>rw[q2]at h;~h
    |bk _=>rw[q2]at h;~h.elim
    |ct _=>rw[q2]at h;~h.elim
    |ex _ _ _=>rw[q2]at h;~h.elim
    |bad=>rw[q2]at h;~h.elim
   ·rw[if_neg z]at h;~h.elim
D! xN:D->D->R D
 |.str w,.str z=>.ok (.bl (decide (w=z)))
 |.tup _,.str _=>.ok (.bl false)
 |_,_=>.bad
T! ank(hu:X.A.units+64<cLine):je X E (compareOp .Eq) xN:=by
 r!\(λx y H Q=>∃z,y=.str z/\((∃w,x=.str w/\Q (.bl (decide (w=z))) H)\/∃a vs,x=.ref a/\lY X.K H a vs/\Q (.bl false) H),λpins s σ H x y v u Q I rx ry h=>?_,λal H x y dx dy Q fr rx ry h=>?_)
 ·o!⟨z,rfl,h⟩:=h
  o!⟨t,rfl⟩:=ry;rcases h with⟨w,rfl,q⟩|⟨a,vs,rfl,hs,q⟩
  ·o!⟨t',rfl⟩:=rx
   r! SeqAt.RcAt.str_str w t' z t X.prog X.w X.xe _ \(.bl (decide (w=z)),H,I,?_,q);show Value.bool (w==z)=Value.bool (decide (w=z));h! e:(w==z)=decide (w=z):=by
    by_cases e:w=z;·subst e;simp
    ·simp[e]
   rw[e]
  ·obtain rfl:v=.ref a:=rx
   o!⟨its,q1,ht,_⟩:=I.tuple hs;~SeqAt.RcAt.tuple_str z t ht o? X.prog X.w X.xe _ \(.bl false,H,I,rfl,q)
 ·u! xN at h
  split at h
  ·c! rx;c! ry
   ~\(_,rfl,.inl \(_,rfl,h H (.refl H) _ (.bl _)))
  ·c! ry
   o!⟨a,vs,rfl,h1,h2⟩:=rx.Cy;~\(_,rfl,.inr \(a,vs,rfl,h1,h H (.refl H) _ (.bl _)))
  ·~h.elim
end
end P2
namespace mQ
open PySem L2 P2 WP WR WC
D! at_(i:Nat):Stmt:=PySem.Challenge.pw_weather_k33_whole_conditions_read_back.main.body.getD i (.Pass \(0,0,0,0))
A! Xq:Stmt:=inClass (at_ 30) 0
A! Nv:Stmt:=inClass (at_ 30) 1
A! Xy:Stmt:=inClass (at_ 30) 2
A! Xv:Stmt:=inClass (at_ 30) 3
A! Xw:Stmt:=inClass (at_ 30) 4
A! Xr:Stmt:=inClass (at_ 30) 5
A! Xu:Stmt:=inClass (at_ 30) 6
A! Xx:Stmt:=inClass (at_ 30) 7
A! V9:Stmt:=at_ 6
A! V5:Stmt:=at_ 7
A! Xm:Stmt:=at_ 8
A! V3:Stmt:=at_ 13
A! V6:Stmt:=at_ 14
A! V2:Stmt:=at_ 15
A! Wc:Stmt:=at_ 16
A! Xe:Stmt:=at_ 17
A! Xj:Stmt:=at_ 18
A! V7:Stmt:=at_ 23
A! Xn:Stmt:=at_ 24
A! Wf:Stmt:=at_ 29
A! Xd:Stmt:=at_ 33
A! Xl:Stmt:=at_ 34
A! Xg:Stmt:=at_ 35
A! Xa:Stmt:=at_ 36
A! Xf:Stmt:=at_ 37
A! Xc:Stmt:=at_ 38
A! Xk:Stmt:=at_ 39
A! Xh:Stmt:=at_ 40
A! Xi:Stmt:=at_ 41
A! Xb:Stmt:=at_ 42
A! Wb:Stmt:=at_ 44
A! Wa:Stmt:=at_ 45
A! Wd:Stmt:=at_ 46
A! We:Stmt:=at_ 47
A! V8:Stmt:=at_ 48
A! Wy:Stmt:=at_ 50
A! WT:Stmt:=at_ 51
A! WM:Stmt:=at_ 52
A! WW:Stmt:=at_ 53
A! W4:Stmt:=at_ 54
A! WQ:Stmt:=at_ 55
A! W2:Stmt:=at_ 56
A! W7:Stmt:=at_ 57
A! WY:Stmt:=at_ 58
A! Wz:Stmt:=at_ 59
A! WN:Stmt:=at_ 60
A! WK:Stmt:=at_ 61
A! W3:Stmt:=at_ 62
A! W5:Stmt:=at_ 63
A! WL:Stmt:=at_ 64
A! WD:Stmt:=at_ 65
A! Wx:Stmt:=at_ 66
A! W6:Stmt:=at_ 67
A! W0:Stmt:=at_ 68
A! WX:Stmt:=at_ 69
A! yJ:Stmt:=at_ 70
structure Tx(K:PySem.W.Frag)(mg:G!)(a:Ad):Prop where
 Jt:mg "abs"=none
 DR:mg "all"=none
 Qa:mg "bool"=none
 tZ:mg "int"=none
 qp:mg "isinstance"=none
 gU:mg "len"=none
 Ju:mg "max"=none
 Jv:mg "range"=none
 rK:mg "str"=none
 Qc:mg "tuple"=none
 Ab:oO mg "FIGURES" (.str "0123456789")
 Ah:oO mg "MOST_FIGURES" (.int 60)
 Al:oO mg "TOP_BOUND" (.int 1000000000)
 Aa:oO mg "BOTTOM_BOUND" (.int 1000000)
 Af:oO mg "LETTERS" (.str "abcdefghijklmnopqrstuvwxyz")
 Ai:oO mg "MOST_LETTERS" (.int 8)
 Ac:Dj K mg "KEY_WORDS" [(.str "mark"),(.str "fill"),(.str "here"),(.str "back"),(.str "on"),(.str "at"),(.str "ago"),(.str "until"),(.str "abs"),(.str "and"),(.str "or"),(.str "not")]
 Ak:oO mg "RUN_SIGNS" (.str "abcdefghijklmnopqrstuvwxyz0123456789/")
 Aj:oO mg "MOST_PARTS" (.int 30)
 Ag:oO mg "MOST_BRACKETS" (.int 16)
 Ae:oO mg "LAST_PLACE" (.int 9)
 ah5:mg "WeatherError"=some (.ref a.WeatherError)
 aat:mg "NoFraction"=some (.ref a.NoFraction)
 mV:mg "NoText"=some (.ref a.NoText)
 aau:mg "Tokens"=some (.ref a.Tokens)
 mZ:vI K a.NoText a.jm "row"
 arY:zp K a.WeatherError
 agN:zp K a.NoFraction
 agM:rG K a.NoText
 arX:rG K a.WeatherError
 dh:lE K a.Tokens
 Mh:nF K a.Tokens "tokens"
 Mg:nF K a.Tokens "place"
 Mf:nF K a.Tokens "parts"
 GF:nF K a.Tokens "brackets"
 pK:Dm K a.d9
section
variable{P:Program}{w:World}{K:PySem.W.Frag}{mg:G!}{base:Heap}{f:Addr}{fd jL:FuncData}
variable{Ip tM oM Dd Ir qe lG rC pD vq Iz vy pF IK Dg IV vz IW vA kO xf vB vC I8 Iu oN I9 vD Ja Jb wZ lX nC nD De Iv:R!}{Jp dR fH vK gC Jq vL iD zq zu xC Du Jm ql vJ xD Dv tV Jo:Z!}
local macro_rules|`(tactic|walk_at "sc")=>`(tactic|exact⟨rfl,rfl,rfl,by decide+kernel,rfl,by decide+kernel,by decide+kernel⟩)
T! ae5:b7 ["text","parted"] ["text"] (bf Wf):=by walk_at "sc"
T! amu{a:Ad}(T:Tx K mg a)(F:cF K "split_row" "split_row" Wf f fd):
    F! 1 f fd ["text"] (bu 1 K λds=>aL (Kf a (aM 2 ds))):=
 fK F ae5 λcdv A outer s H E hr=>(bC (aiX 1 ae5.nd rfl l! (aa0 (Nt:=["sign"]) (tn:=1) rfl (ue (au 0)) (λ_ _ _ _=>(sr 0 (show List.Nodup (["sign"]:List Str)from by decide+kernel) rfl l!)) (by simp) (λ_ _ _ _=>Eg) (λ_ _ _ _=>(zU (bY Ms (au 0) (rY rfl T.Ak)) (au 0) (xH (iU aK (iU (qw (au 0)) (iU aK xK)))))) k? rfl k? k? rfl))
  (bH (cH (DN.de (JN (Nt:=["token"]) (tn:=1) rfl (ue (pG PySem.F.plainAttrs_str PySem.F.slot_str_split PySem.F.type_str_split S8 (pG PySem.F.plainAttrs_str PySem.F.slot_str_join PySem.F.type_str_join alH aK (aA (au 1) aF)) (aA aK aF))) (λ_ _ _ _=>(sr 0 (show List.Nodup (["token"]:List Str)from by decide+kernel) rfl l!)) (by simp) (λ_ _ _ _=>aaU (bY qM (au 0) aK)) (λ_ _ _ _=>(au 0)) k? rfl k? k? rfl)))))
T! ap0:b7 ["self","text"] ["self","text"] (bf Xq):=by walk_at "sc"
T! am4{a:Ad}{dV:Value}(T:Tx K mg a)(F:lH K "__init__" "Tokens.__init__" Xq dV f fd)
    (ajD:H! 1 "split_row" ["text"] (bu 1 K Iv)):
    F! 2 f fd ["self","text"] (bD 2 K λzs S=>bw (v5 a Iv S.length (bG 2 zs) S)):=
 vZ F ap0 λb cdv A outer s H E hr=>(bL (Oq T.dh T.Mh (bJ 0) (bA (cG ajD hr rfl aR rfl (aA (au 1) aF))))
  (bL (Oq T.dh T.Mg (bJ 0) (bA aD))
  (bL (Oq T.dh T.Mf (bJ 0) (bA aD))
  (cL (Oq T.dh T.GF (bJ 0) (bA aD))))))
T! afh:b7 ["self","places","place"] ["self","places"] (bf Nv):=by walk_at "sc"
T! am5{a:Ad}{dV:Value}(T:Tx K mg a)(F:lH K "ahead" "Tokens.ahead" Nv dV f fd):
    F! 1 f fd ["self","places"] (bD 2 K λzs S=>bw (FQ a S.length (bG 3 zs) S)):=
 vZ F afh λb cdv A outer s H E hr=>(bL (fP 2 afh.nd rfl l! (CW cu (Il T.dh T.Mg (bJ 0)) (bA (au 1))))
  (cL (jd (ar0 (oK wB (bA (au 2)) (agQ jl rfl T.gU iu (bB (Il T.dh T.Mh (bJ 0)) cN))) (ar3 bR (Il T.dh T.Mh (bJ 0)) (bA (au 2))) (bA aK)))))
T! afi:b7 ["self","token"] ["self"] (bf Xy):=by walk_at "sc"
T! anb{a:Ad}{dV:Value}(T:Tx K mg a)(F:lH K "take" "Tokens.take" Xy dV f fd)
    (jr:fM P w K mg base mL 1 a.jm jL ["self","row"] (o6 a.NoText "row"))(jk:Binds K jL ["self","row"] [])
    (nR:J! 2 a.Tokens "ahead" ["self","places"] [(.int 0)] (bD 2 K dR)):
    F! 3 f fd ["self"] (bD 1 K λzs S=>bw (xV a dR S.length (bG 2 zs) S)):=
 vZ F afi λb cdv A outer s H E hr=>(bL (fP 1 afi.nd rfl l! (jc nR T.dh hr aR (bJ 0) rfl))
  (bL (iM (vf (bY fC (au 1) aK)) (cL (CZ (oR (x:="NoText") T.mZ jr jk (hr.mono d?) rfl T.mV (aA aD aF)))) km)
  (bL (Ot R3 T.dh T.Mg (bJ 0) (bA aD))
  (cL (jd (bA (au 1)))))))
T! ap3:b7 ["self","token"] ["self","token"] (bf Xv):=by walk_at "sc"
T! am8{a:Ad}{dV:Value}(T:Tx K mg a)(F:lH K "expect" "Tokens.expect" Xv dV f fd)
    (jr:fM P w K mg base mL 1 a.jm jL ["self","row"] (o6 a.NoText "row"))(jk:Binds K jL ["self","row"] [])
    (qH:J! 3 a.Tokens "take" ["self"] [] (bD 1 K iD)):
    F! 4 f fd ["self","token"] (bD 2 K λzs S=>bw (xU a iD S.length (bG 2 zs) S)):=
 vZ F ap3 λb cdv A outer s H E hr=>(cL (iM (oK qM (jc qH T.dh hr aR (bJ 0) rfl) (bA (au 1))) (cL (CZ (oR (x:="NoText") T.mZ jr jk (hr.mono d?) rfl T.mV (aA aD aF)))) km))
T! ap4:b7 ["self"] ["self"] (bf Xw):=by walk_at "sc"
T! am9{a:Ad}{dV:Value}(T:Tx K mg a)(F:lH K "expect_end" "Tokens.expect_end" Xw dV f fd)
    (jr:fM P w K mg base mL 1 a.jm jL ["self","row"] (o6 a.NoText "row"))(jk:Binds K jL ["self","row"] [])
    (nR:J! 2 a.Tokens "ahead" ["self","places"] [(.int 0)] (bD 2 K dR)):
    F! 3 f fd ["self"] (bD 1 K λzs S=>bw (FZ a dR S.length (bG 1 zs) S)):=
 vZ F ap4 λb cdv A outer s H E hr=>(cL (iM (oK qM (jc nR T.dh hr aR (bJ 0) rfl) (bA aK)) (cL (CZ (oR (x:="NoText") T.mZ jr jk (hr.mono d?) rfl T.mV (aA aD aF)))) km))
T! ap1:b7 ["self"] ["self"] (bf Xr):=by walk_at "sc"
T! am6{a:Ad}{dV:Value}(T:Tx K mg a)(F:lH K "begin_part" "Tokens.begin_part" Xr dV f fd)
    (jr:fM P w K mg base mL 1 a.jm jL ["self","row"] (o6 a.NoText "row"))(jk:Binds K jL ["self","row"] []):
    F! 3 f fd ["self"] (bD 1 K λzs S=>bw (FT a S.length (bG 1 zs) S)):=
 vZ F ap1 λb cdv A outer s H E hr=>(bL (Ot R3 T.dh T.Mf (bJ 0) (bA aD))
  (cL (iM (oK mz (Il T.dh T.Mf (bJ 0)) (bA (rY rfl T.Aj))) (cL (CZ (oR (x:="NoText") T.mZ jr jk (hr.mono d?) rfl T.mV (aA aD aF)))) km)))
T! ap2:b7 ["self","bracket"] ["self","bracket"] (bf Xu):=by walk_at "sc"
T! am7{a:Ad}{dV:Value}(T:Tx K mg a)(F:lH K "enter" "Tokens.enter" Xu dV f fd)
    (jr:fM P w K mg base mL 1 a.jm jL ["self","row"] (o6 a.NoText "row"))(jk:Binds K jL ["self","row"] [])
    (qG:J! 4 a.Tokens "expect" ["self","token"] [] (bD 2 K gC)):
    F! 5 f fd ["self","bracket"] (bD 2 K λzs S=>bw (FW a gC S.length (bG 2 zs) S)):=
 vZ F ap2 λb cdv A outer s H E hr=>(bL (kj (rn qG T.dh hr aR (bJ 0) (bB (bA (au 1)) cN) rfl))
  (bL (Ot R3 T.dh T.GF (bJ 0) (bA aD))
  (cL (iM (oK mz (Il T.dh T.GF (bJ 0)) (bA (rY rfl T.Ag))) (cL (CZ (oR (x:="NoText") T.mZ jr jk (hr.mono d?) rfl T.mV (aA aD aF)))) km))))
T! ap5:b7 ["self","bracket"] ["self","bracket"] (bf Xx):=by walk_at "sc"
T! ana{a:Ad}{dV:Value}(T:Tx K mg a)(F:lH K "leave" "Tokens.leave" Xx dV f fd)
    (qG:J! 4 a.Tokens "expect" ["self","token"] [] (bD 2 K gC)):
    F! 5 f fd ["self","bracket"] (bD 2 K λzs S=>bw (Ga a gC S.length (bG 2 zs) S)):=
 vZ F ap5 λb cdv A outer s H E hr=>(bL (kj (rn qG T.dh hr aR (bJ 0) (bB (bA (au 1)) cN) rfl))
  (cL (Ot akj T.dh T.GF (bJ 0) (bA aD))))
T! apP:b7 ["text"] ["text"] (bf V9):=by walk_at "sc"
T! amn{a:Ad}(T:Tx K mg a)(F:cF K "only_figures" "only_figures" V9 f fd):
    F! 1 f fd ["text"] (bu 1 K λds=>aL (Ke a (aM 1 ds))):=
 fK F apP λcdv A outer s H E hr=>(bH (cH (zT (rW qM (au 0) aK) (xJ (dJ (JC rfl) rfl T.DR Jy (aA (DN.de (JN (Nt:=["sign"]) (tn:=1) rfl (ue (au 0)) (λ_ _ _ _=>(sr 0 (show List.Nodup (["sign"]:List Str)from by decide+kernel) rfl l!)) (by simp) (λ_ _ _ _=>Eg) (λ_ _ _ _=>(rW Ms (au 0) (rY rfl T.Ab))) k? rfl k? k? rfl)) aF))))))
T! apI:b7 ["text","most_figures"] ["text","most_figures"] (bf V5):=by walk_at "sc"
T! amh{a:Ad}(T:Tx K mg a)(F:cF K "is_number" "is_number" V5 f fd)
    (ajC:H! 1 "only_figures" ["text"] (bu 1 K Iu)):
    F! 2 f fd ["text","most_figures"] (bu 2 K λds=>aL (Ka a Iu (aM 2 ds))):=
 fK F apI λcdv A outer s H E hr=>(bC (dX (DW.dt (qx (bY mz (dJ jl rfl T.gU iu (aA (au 0) aF)) (au 1)) (vX (pH (mj (cG ajC hr rfl aR rfl (aA (au 0) aF))))))) (bH (cH vU)) eF)
  (bH (cH (aaO (rW fC (au 0) aK) (xJ (JM (pG PySem.F.plainAttrs_str PySem.F.slot_str_startswith PySem.F.type_str_startswith acG (au 0) (aA aK aF))))))))
T! afg:b7 ["text","least","most","number"] ["text","least","most"] (bf Xm):=by walk_at "sc"
T! am2{a:Ad}(T:Tx K mg a)(F:cF K "read_whole" "read_whole" Xm f fd)
    (jr:fM P w K mg base mL 1 a.jm jL ["self","row"] (o6 a.NoText "row"))(jk:Binds K jL ["self","row"] [])
    (Rv:H! 2 "is_number" ["text","most_figures"] (bu 2 K oM)):
    F! 3 f fd ["text","least","most"] (bu 3 K λds=>aL (KR a oM (aM 4 ds))):=
 fK F afg λcdv A outer s H E hr=>(bC (dX (pH (mj (cG Rv hr rfl aR rfl (aA (au 0) (aA (dJ jl rfl T.gU iu (aA (qu Eb rfl T.rK ud (aA (au 2) aF)) aF)) aF))))) (bH (oR T.mZ jr jk (hr.mono d?) rfl T.mV (aA aD aF))) eF)
  (bC (cV 3 afg.nd rfl l! (qu Ea rfl T.tZ vN (aA (au 0) aF)))
  (bC (dX (DW.dt (qx (bY wB (au 3) (au 1)) (vX (bY mz (au 3) (au 2))))) (bH (oR T.mZ jr jk (hr.mono d?) rfl T.mV (aA aD aF))) eF)
  (bH (cH (au 3))))))
T! Nm:b7 ["one","other","rest"] ["one","other"] (bf V2):=by walk_at "sc"
T! amf{a:Ad}(T:Tx K mg a)(F:cF K "common_divisor" "common_divisor" V2 f fd):
    F! 1 f fd ["one","other"] (bu 2 K λds=>aL (J3 a (aM 3 ds))):=
 fK F Nm λcdv A outer s H E hr=>(bC (aa2 10000000000000000000000000000000000000000000000000000000000000000000000000000000000000000000000000000000000000000000000000000000000000000000000000000000000000000000000000000000000000000000000000000000000000000000000000000000000000000000000000000000000000000000000000000000000000000000000000000000000000000000000000000000000000000000000000000000000000000000000000000000000000000000000000000000000000000 pP (bY qM (au 1) aD) (bC (cV 2 Nm.nd rfl l! (aX iz (au 0) (au 1)))
  (bC (cV 0 Nm.nd rfl l! (au 1))
  (bH (cV 1 Nm.nd rfl l! (au 2))))))
  (bH (cH (au 0))))
T! apJ:b7 ["thing"] ["thing"] (bf V6):=by walk_at "sc"
T! ami{a:Ad}(T:Tx K mg a)(F:cF K "is_whole" "is_whole" V6 f fd):
    F! 1 f fd ["thing"] (bu 1 K λds=>aL (Kc a (aM 1 ds))):=
 fK F apJ λcdv A outer s H E hr=>(bH (cH (zT (dJ (rQ T.pK) rfl T.qp rP (aA (au 0) (aA (rZ rfl T.tZ vN) aF))) (xJ (JM (dJ (rQ T.pK) rfl T.qp rP (aA (au 0) (aA (rZ rfl T.Qa aar) aF))))))))
T! Wh:b7 ["top","bottom","divisor"] ["top","bottom"] (bf V3):=by walk_at "sc"
T! amg{a:Ad}(T:Tx K mg a)(F:cF K "fraction" "fraction" V3 f fd)
    (abC:H! 2 "is_whole" ["thing"] (bu 1 K Dd))
    (ajz:H! 2 "common_divisor" ["one","other"] (bu 2 K Ip)):
    F! 3 f fd ["top","bottom"] (bu 2 K λds=>aL (J4 a Dd Ip (aM 3 ds))):=
 fK F Wh λcdv A outer s H E hr=>(bC (dX (DW.dt (qx (pH (mj (cG abC hr rfl aR rfl (aA (au 0) aF)))) (qx (pH (mj (cG abC hr rfl aR rfl (aA (au 1) aF)))) (vX (bY fC (au 1) aD))))) (bH (aiW PySem.F.excBase_ValueError T.agN.cls rfl T.aat)) eF)
  (bC (cV 2 Wh.nd rfl l! (cG ajz hr rfl aR rfl (aA (dJ Qn rfl T.Jt Qh (aA (au 0) aF)) (aA (dJ Qn rfl T.Jt Qh (aA (au 1) aF)) aF))))
  (bC (dX (bY wB (au 1) aD) (bH (cV 2 Wh.nd rfl l! (aaP af9 (au 2)))) eF)
  (bH (cH (dG (aA (aX jU (au 0) (au 2)) (aA (aX jU (au 1) (au 2)) aF))))))))
T! Wi:b7 ["one","top","bottom"] ["one"] (bf Wc):=by walk_at "sc"
T! amr{a:Ad}(T:Tx K mg a)(F:cF K "show_fraction" "show_fraction" Wc f fd):
    F! 1 f fd ["one"] (bu 1 K λds=>aL (Et a (aM 3 ds))):=
 fK F Wi λcdv A outer s H E hr=>(bC (cV 1 Wi.nd rfl l! (bV bR (au 0) aD))
  (bC (cV 2 Wi.nd rfl l! (bV bR (au 0) aD))
  (bC (dX (bY fC (au 2) aD) (bH (cH (qu Eb rfl T.rK ud (aA (au 1) aF)))) eF)
  (bH (cH (xH (iU (qw (au 1)) (iU aK (iU (qw (au 2)) xK)))))))))
T! Ci:b7 ["text","below","parts","top","bottom","found"] ["text"] (bf Xe):=by walk_at "sc"
T! amU{a:Ad}(T:Tx K mg a)(F:cF K "read_fraction" "read_fraction" Xe f fd)
    (jr:fM P w K mg base mL 1 a.jm jL ["self","row"] (o6 a.NoText "row"))(jk:Binds K jL ["self","row"] [])
    (Rv:H! 3 "is_number" ["text","most_figures"] (bu 2 K oM))
    (ajA:H! 3 "fraction" ["top","bottom"] (bu 2 K tM))
    (K3:H! 3 "show_fraction" ["one"] (bu 1 K nC)):
    F! 4 f fd ["text"] (bu 1 K λds=>aL (KN a oM tM nC (aM 6 ds))):=
 fK F Ci λcdv A outer s H E hr=>(bC (cV 1 Ci.nd rfl l! (pG PySem.F.plainAttrs_str PySem.F.slot_str_startswith PySem.F.type_str_startswith acG (au 0) (aA aK aF)))
  (bC (cV 2 Ci.nd rfl l! (zU (mj (au 1)) (pG PySem.F.plainAttrs_str PySem.F.slot_str_split PySem.F.type_str_split S8 (zW Cq (au 0) (vV aD) JP) (aA aK aF)) (pG PySem.F.plainAttrs_str PySem.F.slot_str_split PySem.F.type_str_split S8 (au 0) (aA aK aF))))
  (bC (dX (DW.dt (qx (bY mz (dJ jl rfl T.gU iu (aA (au 2) aF)) aD) (vX (pH (mj (dJ (JC rfl) rfl T.DR Jy (aA (DN.de (JN (Nt:=["part"]) (tn:=1) rfl (ue (au 2)) (λ_ _ _ _=>(sr 0 (show List.Nodup (["part"]:List Str)from by decide+kernel) rfl l!)) (by simp) (λ_ _ _ _=>Eg) (λ_ _ _ _=>(cG Rv hr rfl ac5 rfl (aA (au 0) (aA (rY rfl T.Ah) aF)))) k? rfl k? k? rfl)) aF))))))) (bH (oR T.mZ jr jk (hr.mono d?) rfl T.mV (aA aD aF))) eF)
  (bC (cV 3 Ci.nd rfl l! (zU (mj (au 1)) (aaP af9 (qu Ea rfl T.tZ vN (aA (bV bR (au 2) aD) aF))) (qu Ea rfl T.tZ vN (aA (bV bR (au 2) aD) aF))))
  (bC (cV 4 Ci.nd rfl l! (zU (bY fC (dJ jl rfl T.gU iu (aA (au 2) aF)) aD) (qu Ea rfl T.tZ vN (aA (bV bR (au 2) aD) aF)) aD))
  (bC (dX (bY fC (au 4) aD) (bH (oR T.mZ jr jk (hr.mono d?) rfl T.mV (aA aD aF))) eF)
  (bC (cV 5 Ci.nd rfl l! (cG ajA hr rfl aR rfl (aA (au 3) (aA (au 4) aF))))
  (bC (dX (bY qM (cG K3 hr rfl aR rfl (aA (au 5) aF)) (au 0)) (bH (oR T.mZ jr jk (hr.mono d?) rfl T.mV (aA aD aF))) eF)
  (bH (cH (au 5)))))))))))
T! afd:b7 ["text","found"] ["text"] (bf Xj):=by walk_at "sc"
T! amZ{a:Ad}(T:Tx K mg a)(F:cF K "read_small_fraction" "read_small_fraction" Xj f fd)
    (jr:fM P w K mg base mL 1 a.jm jL ["self","row"] (o6 a.NoText "row"))(jk:Binds K jL ["self","row"] [])
    (aj2:H! 4 "read_fraction" ["text"] (bu 1 K I9)):
    F! 5 f fd ["text"] (bu 1 K λds=>aL (KQ a I9 (aM 2 ds))):=
 fK F afd λcdv A outer s H E hr=>(bC (cV 1 afd.nd rfl l! (cG aj2 hr rfl aR rfl (aA (au 0) aF)))
  (bC (dX (DW.dt (qx (bY acV (dJ Qn rfl T.Jt Qh (aA (bV bR (au 1) aD) aF)) (rY rfl T.Al)) (vX (bY acV (bV bR (au 1) aD) (rY rfl T.Aa))))) (bH (oR T.mZ jr jk (hr.mono d?) rfl T.mV (aA aD aF))) eF)
  (bH (cH (au 1)))))
T! apK:b7 ["thing"] ["thing"] (bf V7):=by walk_at "sc"
T! amj{a:Ad}(T:Tx K mg a)(F:cF K "is_word" "is_word" V7 f fd):
    F! 1 f fd ["thing"] (bu 1 K λds=>aL (Kd a (aM 1 ds))):=
 fK F apK λcdv A outer s H E hr=>(bC (dX (DW.dt (qx (pH (mj (dJ (rQ T.pK) rfl T.qp rP (aA (au 0) (aA (rZ rfl T.rK ud) aF))))) (qx (bY fC (au 0) aK) (vX (bY mz (dJ jl rfl T.gU iu (aA (au 0) aF)) (rY rfl T.Ai)))))) (bH (cH vU)) eF)
  (bH (cH (zT (dJ (JC rfl) rfl T.DR Jy (aA (DN.de (JN (Nt:=["sign"]) (tn:=1) rfl (ue (au 0)) (λ_ _ _ _=>(sr 0 (show List.Nodup (["sign"]:List Str)from by decide+kernel) rfl l!)) (by simp) (λ_ _ _ _=>Eg) (λ_ _ _ _=>(rW Ms (au 0) (rY rfl T.Af))) k? rfl k? k? rfl)) aF)) (xJ (rW (acW hr.units) (au 0) (aiL rfl T.Ac)))))))
T! apY:b7 ["text"] ["text"] (bf Xn):=by walk_at "sc"
T! am3{a:Ad}(T:Tx K mg a)(F:cF K "read_word" "read_word" Xn f fd)
    (jr:fM P w K mg base mL 1 a.jm jL ["self","row"] (o6 a.NoText "row"))(jk:Binds K jL ["self","row"] [])
    (ajB:H! 2 "is_word" ["thing"] (bu 1 K Ir)):
    F! 3 f fd ["text"] (bu 1 K λds=>aL (KY a Ir (aM 1 ds))):=
 fK F apY λcdv A outer s H E hr=>(bC (dX (pH (mj (cG ajB hr rfl aR rfl (aA (au 0) aF)))) (bH (oR T.mZ jr jk (hr.mono d?) rfl T.mV (aA aD aF))) eF)
  (bH (cH (au 0))))
T! Nr:b7 ["tokens","term","sign"] ["tokens"] (bf Xk):=by walk_at "sc"
T! am0{a:Ad}{k:Nat}(T:Tx K mg a)(F:cF K "read_sum" "read_sum" Xk f fd)
    (abM:H! k "read_product" ["tokens"] (bD 1 K xD))
    (nR:J! k a.Tokens "ahead" ["self","places"] [(.int 0)] (bD 2 K dR))
    (qH:J! k a.Tokens "take" ["self"] [] (bD 1 K iD))
    (oY:J! k a.Tokens "begin_part" ["self"] [] (bD 1 K fH)):
    F! (k+1) f fd ["tokens"] (bD 1 K λzs S=>bw (FN a xD dR iD fH S.length (bG 3 zs) S)):=
 nO F Nr λb cdv A outer s H E hr=>(bL (fP 1 Nr.nd rfl l! (jW abM hr rfl aR rfl (bB (bJ 0) cN)))
  (bL (Im 100 pP (oK (pN hr.units) (jc nR T.dh hr aR (bJ 0) rfl) (bA (dG (aA aK (aA aK aF))))) (bL (fP 2 Nr.nd rfl l! (jc qH T.dh hr aR (bJ 0) rfl))
  (bL (kj (jc oY T.dh hr aR (bJ 0) rfl))
  (cL (fP 1 Nr.nd rfl l! (tH (bB (bA (au 2)) (bB (bA (au 1)) (bB (jW abM hr rfl aR rfl (bB (bJ 0) cN)) cN)))))))))
  (cL (jd (bA (au 1))))))
T! afb:b7 ["tokens","factor"] ["tokens"] (bf Xh):=by walk_at "sc"
T! amX{a:Ad}{k:Nat}(T:Tx K mg a)(F:cF K "read_product" "read_product" Xh f fd)
    (RQ:H! k "read_small_fraction" ["text"] (bu 1 K vD))
    (abN:H! k "read_single" ["tokens"] (bD 1 K Dv))
    (aj7:J! k a.Tokens "ahead" ["self","places"] [] (bD 2 K dR))
    (qH:J! k a.Tokens "take" ["self"] [] (bD 1 K iD))
    (qG:J! k a.Tokens "expect" ["self","token"] [] (bD 2 K gC))
    (oY:J! k a.Tokens "begin_part" ["self"] [] (bD 1 K fH)):
    F! (k+1) f fd ["tokens"] (bD 1 K λzs S=>bw (Fz a vD dR Dv iD gC fH S.length (bG 2 zs) S)):=
 nO F afb λb cdv A outer s H E hr=>(bL (iM (oK qM (rn aj7 T.dh hr aR (bJ 0) (bB (bA aD) cN) rfl) (bA aK)) (cL (jd (jW abN hr rfl aR rfl (bB (bJ 0) cN)))) km)
  (bL (fP 1 afb.nd rfl l! (pX RQ hr rfl aR rfl (bB (jc qH T.dh hr aR (bJ 0) rfl) cN)))
  (bL (kj (rn qG T.dh hr aR (bJ 0) (bB (bA aK) cN) rfl))
  (bL (kj (jc oY T.dh hr aR (bJ 0) rfl))
  (cL (jd (tH (bB (bA aK) (bB (bA (au 1)) (bB (jW abN hr rfl aR rfl (bB (bJ 0) cN)) cN))))))))))
T! afc:b7 ["tokens","word"] ["tokens"] (bf Xi):=by walk_at "sc"
T! amY{a:Ad}{k:Nat}(T:Tx K mg a)(F:cF K "read_single" "read_single" Xi f fd)
    (aj4:H! k "read_whole" ["text","least","most"] (bu 3 K Ja))
    (aj5:H! k "read_word" ["text"] (bu 1 K Jb))
    (RQ:H! k "read_small_fraction" ["text"] (bu 1 K vD))
    (abL:H! k "read_bracketed" ["tokens"] (bD 1 K Du))
    (nR:J! k a.Tokens "ahead" ["self","places"] [(.int 0)] (bD 2 K dR))
    (oY:J! k a.Tokens "begin_part" ["self"] [] (bD 1 K fH))
    (qH:J! k a.Tokens "take" ["self"] [] (bD 1 K iD)):
    F! (k+1) f fd ["tokens"] (bD 1 K λzs S=>bw (FJ a Ja Jb vD dR Du fH iD S.length (bG 2 zs) S)):=
 nO F afc λb cdv A outer s H E hr=>(bL (iM (oK fC (jc nR T.dh hr aR (bJ 0) rfl) (bA aK)) (cL (jd (jW abL hr rfl aR rfl (bB (bJ 0) cN)))) km)
  (bL (kj (jc oY T.dh hr aR (bJ 0) rfl))
  (bL (fP 1 afc.nd rfl l! (jc qH T.dh hr aR (bJ 0) rfl))
  (bL (iM (vf (bY fC (au 1) aK)) (cL (jd (bA (dG (aA aK aF))))) km)
  (bL (iM (vf (bY (pN hr.units) (au 1) (dG (aA aK (aA aK (aA aK (aA aK aF))))))) (cL (jd (tH (bB (bA (au 1)) (bB (pX aj4 hr rfl aR rfl (bB (jc qH T.dh hr aR (bJ 0) rfl) (bB (bA aD) (bB (bA (rY rfl T.Ae)) cN)))) cN))))) km)
  (bL (iM (vf (bY fC (au 1) aK)) (cL (jd (tH (bB (bA aK) (bB (pX aj5 hr rfl aR rfl (bB (jc qH T.dh hr aR (bJ 0) rfl) cN)) cN))))) km)
  (bL (iM (vf (bY fC (au 1) aK)) (cL (jd (tH (bB (bA aK) (bB (jW abL hr rfl aR rfl (bB (bJ 0) cN)) cN))))) km)
  (cL (jd (bA (dG (aA aK (aA (cG RQ hr rfl aR rfl (aA (au 1) aF)) aF)))))))))))))
T! ae9:b7 ["tokens","term"] ["tokens"] (bf Xb):=by walk_at "sc"
T! amR{a:Ad}{k:Nat}(T:Tx K mg a)(F:cF K "read_bracketed" "read_bracketed" Xb f fd)
    (Le:H! k "read_sum" ["tokens"] (bD 1 K tV))
    (RV:J! k a.Tokens "enter" ["self","bracket"] [] (bD 2 K vK))
    (RW:J! k a.Tokens "leave" ["self","bracket"] [] (bD 2 K vL)):
    F! (k+1) f fd ["tokens"] (bD 1 K λzs S=>bw (Ez a vK tV vL S.length (bG 2 zs) S)):=
 nO F ae9 λb cdv A outer s H E hr=>(bL (kj (rn RV T.dh hr aR (bJ 0) (bB (bA aK) cN) rfl))
  (bL (fP 1 ae9.nd rfl l! (jW Le hr rfl aR rfl (bB (bJ 0) cN)))
  (bL (kj (rn RW T.dh hr aR (bJ 0) (bB (bA aK) cN) rfl))
  (cL (jd (bA (au 1)))))))
T! Wq:b7 ["tokens","left","sign"] ["tokens"] (bf Xc):=by walk_at "sc"
T! amS{a:Ad}(T:Tx K mg a)(F:cF K "read_comparison" "read_comparison" Xc f fd)
    (jr:fM P w K mg base mL 1 a.jm jL ["self","row"] (o6 a.NoText "row"))(jk:Binds K jL ["self","row"] [])
    (Le:H! 80 "read_sum" ["tokens"] (bD 1 K tV))
    (oY:J! 80 a.Tokens "begin_part" ["self"] [] (bD 1 K fH))
    (qH:J! 80 a.Tokens "take" ["self"] [] (bD 1 K iD)):
    F! 81 f fd ["tokens"] (bD 1 K λzs S=>bw (EY a fH tV iD S.length (bG 3 zs) S)):=
 nO F Wq λb cdv A outer s H E hr=>(bL (kj (jc oY T.dh hr aR (bJ 0) rfl))
  (bL (fP 1 Wq.nd rfl l! (jW Le hr rfl aR rfl (bB (bJ 0) cN)))
  (bL (fP 2 Wq.nd rfl l! (jc qH T.dh hr aR (bJ 0) rfl))
  (bL (iM (vf (bY (acW hr.units) (au 2) (dG (aA aK (aA aK aF))))) (cL (CZ (oR (x:="NoText") T.mZ jr jk (hr.mono d?) rfl T.mV (aA aD aF)))) km)
  (cL (jd (tH (bB (bA (au 2)) (bB (bA (au 1)) (bB (jW Le hr rfl aR rfl (bB (bJ 0) cN)) cN))))))))))
T! Wr:b7 ["tokens","condition"] ["tokens"] (bf Xg):=by walk_at "sc"
T! amW{a:Ad}{k:Nat}(T:Tx K mg a)(F:cF K "read_or" "read_or" Xg f fd)
    (abK:H! k "read_and" ["tokens"] (bD 1 K xC))
    (nR:J! k a.Tokens "ahead" ["self","places"] [(.int 0)] (bD 2 K dR))
    (qG:J! k a.Tokens "expect" ["self","token"] [] (bD 2 K gC))
    (oY:J! k a.Tokens "begin_part" ["self"] [] (bD 1 K fH)):
    F! (k+1) f fd ["tokens"] (bD 1 K λzs S=>bw (Fy a xC dR gC fH S.length (bG 2 zs) S)):=
 nO F Wr λb cdv A outer s H E hr=>(bL (fP 1 Wr.nd rfl l! (jW abK hr rfl aR rfl (bB (bJ 0) cN)))
  (bL (Im 100 pP (oK fC (jc nR T.dh hr aR (bJ 0) rfl) (bA aK)) (bL (kj (rn qG T.dh hr aR (bJ 0) (bB (bA aK) cN) rfl))
  (bL (kj (jc oY T.dh hr aR (bJ 0) rfl))
  (cL (fP 1 Wr.nd rfl l! (tH (bB (bA aK) (bB (bA (au 1)) (bB (jW abK hr rfl aR rfl (bB (bJ 0) cN)) cN)))))))))
  (cL (jd (bA (au 1))))))
T! Wo:b7 ["tokens","condition"] ["tokens"] (bf Xa):=by walk_at "sc"
T! amQ{a:Ad}{k:Nat}(T:Tx K mg a)(F:cF K "read_and" "read_and" Xa f fd)
    (Ld:H! k "read_not" ["tokens"] (bD 1 K ql))
    (nR:J! k a.Tokens "ahead" ["self","places"] [(.int 0)] (bD 2 K dR))
    (qG:J! k a.Tokens "expect" ["self","token"] [] (bD 2 K gC))
    (oY:J! k a.Tokens "begin_part" ["self"] [] (bD 1 K fH)):
    F! (k+1) f fd ["tokens"] (bD 1 K λzs S=>bw (Ey a ql dR gC fH S.length (bG 2 zs) S)):=
 nO F Wo λb cdv A outer s H E hr=>(bL (fP 1 Wo.nd rfl l! (jW Ld hr rfl aR rfl (bB (bJ 0) cN)))
  (bL (Im 100 pP (oK fC (jc nR T.dh hr aR (bJ 0) rfl) (bA aK)) (bL (kj (rn qG T.dh hr aR (bJ 0) (bB (bA aK) cN) rfl))
  (bL (kj (jc oY T.dh hr aR (bJ 0) rfl))
  (cL (fP 1 Wo.nd rfl l! (tH (bB (bA aK) (bB (bA (au 1)) (bB (jW Ld hr rfl aR rfl (bB (bJ 0) cN)) cN)))))))))
  (cL (jd (bA (au 1))))))
T! afa:b7 ["tokens","condition"] ["tokens"] (bf Xf):=by walk_at "sc"
T! amV{a:Ad}{k:Nat}(T:Tx K mg a)(F:cF K "read_not" "read_not" Xf f fd)
    (Ld:H! k "read_not" ["tokens"] (bD 1 K ql))
    (RP:H! k "read_or" ["tokens"] (bD 1 K vJ))
    (aj1:H! k "read_comparison" ["tokens"] (bD 1 K Jm))
    (nR:J! k a.Tokens "ahead" ["self","places"] [(.int 0)] (bD 2 K dR))
    (qG:J! k a.Tokens "expect" ["self","token"] [] (bD 2 K gC))
    (oY:J! k a.Tokens "begin_part" ["self"] [] (bD 1 K fH))
    (RV:J! k a.Tokens "enter" ["self","bracket"] [] (bD 2 K vK))
    (RW:J! k a.Tokens "leave" ["self","bracket"] [] (bD 2 K vL)):
    F! (k+1) f fd ["tokens"] (bD 1 K λzs S=>bw (Fe a dR gC fH ql vK vJ vL Jm S.length (bG 2 zs) S)):=
 nO F afa λb cdv A outer s H E hr=>(bL (iM (oK fC (jc nR T.dh hr aR (bJ 0) rfl) (bA aK)) (bL (kj (rn qG T.dh hr aR (bJ 0) (bB (bA aK) cN) rfl))
  (bL (kj (jc oY T.dh hr aR (bJ 0) rfl))
  (cL (jd (tH (bB (bA aK) (bB (jW Ld hr rfl aR rfl (bB (bJ 0) cN)) cN))))))) km)
  (bL (iM (oK fC (jc nR T.dh hr aR (bJ 0) rfl) (bA aK)) (bL (kj (rn RV T.dh hr aR (bJ 0) (bB (bA aK) cN) rfl))
  (bL (fP 1 afa.nd rfl l! (jW RP hr rfl aR rfl (bB (bJ 0) cN)))
  (bL (kj (rn RW T.dh hr aR (bJ 0) (bB (bA aK) cN) rfl))
  (cL (jd (bA (au 1))))))) km)
  (cL (jd (jW aj1 hr rfl aR rfl (bB (bJ 0) cN))))))
T! afe:b7 ["tokens","condition"] ["tokens"] (bf Xl):=by walk_at "sc"
T! am1{a:Ad}(T:Tx K mg a)(F:cF K "read_to_end" "read_to_end" Xl f fd)
    (RP:H! 166 "read_or" ["tokens"] (bD 1 K vJ))
    (aj8:J! 166 a.Tokens "expect_end" ["self"] [] (bD 1 K Jq)):
    F! 167 f fd ["tokens"] (bD 1 K λzs S=>bw (FP a vJ Jq S.length (bG 2 zs) S)):=
 nO F afe λb cdv A outer s H E hr=>(bL (fP 1 afe.nd rfl l! (jW RP hr rfl aR rfl (bB (bJ 0) cN)))
  (bL (kj (jc aj8 T.dh hr aR (bJ 0) rfl))
  (cL (jd (bA (au 1))))))
T! apW:b7 ["text"] ["text"] (bf Xd):=by walk_at "sc"
T! amT{a:Ad}(T:Tx K mg a)(F:cF K "read_condition" "read_condition" Xd f fd)
    (aj3:H! 167 "read_to_end" ["tokens"] (bD 1 K Jo))
    (ajy:tR P w K mg base 166 a.Tokens ["self","text"] (bD 2 K Jp)):
    F! 168 f fd ["text"] (bD 1 K λzs S=>bw (Fd a Jp Jo S.length (bG 1 zs) S)):=
 nO F apW λb cdv A outer s H E hr=>(cL (jd (jW aj3 hr rfl aR rfl (bB (ar4 ajy hr rfl T.aau aR (bB (bA (au 0)) cN) rfl) cN))))
T! apL:b7 ["left","sign","right"] ["left","sign","right"] (bf V8):=by walk_at "sc"
T! amk{a:Ad}(T:Tx K mg a)(F:cF K "joined" "joined" V8 f fd):
    F! 1 f fd ["left","sign","right"] (bu 3 K λds=>aL (Er a (aM 3 ds))):=
 fK F apL λcdv A outer s H E hr=>(bH (cH (xH (iU (qw (au 0)) (iU aK (iU (qw (au 1)) (iU aK (iU (qw (au 2)) xK))))))))
T! ae4:b7 ["term","loose","text"] ["term","loose"] (bf We):=by walk_at "sc"
T! amt{a:Ad}{k:Nat}(T:Tx K mg a)(F:cF K "show_tight" "show_tight" We f fd)
    (xX:H! k "show_term" ["term"] (bu 1 K nD)):
    F! (k+1) f fd ["term","loose"] (bu 2 K λds=>aL (Eu a nD (aM 3 ds))):=
 fK F ae4 λcdv A outer s H E hr=>(bC (cV 2 ae4.nd rfl l! (cG xX hr rfl aR rfl (aA (au 0) aF)))
  (bH (cH (zU (bY (pN hr.units) (bV bR (au 0) aD) (au 1)) (xH (iU aK (iU (qw (au 2)) (iU aK xK)))) (au 2)))))
T! Np:b7 ["term","kind","inner","place"] ["term"] (bf Wd):=by walk_at "sc"
T! ams{a:Ad}{k:Nat}(T:Tx K mg a)(F:cF K "show_term" "show_term" Wd f fd)
    (abD:H! k "show_tight" ["term","loose"] (bu 2 K De))
    (xX:H! k "show_term" ["term"] (bu 1 K nD))
    (Av:H! k "joined" ["left","sign","right"] (bu 3 K qe))
    (K3:H! k "show_fraction" ["one"] (bu 1 K nC)):
    F! (k+1) f fd ["term"] (bu 1 K λds=>aL (jO a De nD qe nC (aM 4 ds))):=
 fK F Np λcdv A outer s H E hr=>(bC (cV 1 Np.nd rfl l! (bV bR (au 0) aD))
  (bC (dX (bY (pN hr.units) (au 1) (dG (aA aK (aA aK aF)))) (bH (cH (cG Av hr rfl aR rfl (aA (cG xX hr rfl aR rfl (aA (bV bR (au 0) aD) aF)) (aA (au 1) (aA (cG abD hr rfl aR rfl (aA (bV bR (au 0) aD) (aA (dG (aA aK (aA aK aF))) aF))) aF)))))) eF)
  (bC (dX (bY fC (au 1) aK) (bH (cH (cG Av hr rfl aR rfl (aA (cG K3 hr rfl aR rfl (aA (bV bR (au 0) aD) aF)) (aA aK (aA (cG abD hr rfl aR rfl (aA (bV bR (au 0) aD) (aA (dG (aA aK (aA aK (aA aK aF)))) aF))) aF)))))) eF)
  (bC (dX (bY fC (au 1) aK) (bC (cV 2 Np.nd rfl l! (cG xX hr rfl aR rfl (aA (bV bR (au 0) aD) aF)))
  (bH (cH (xH (iU aK (iU (qw (au 2)) (iU aK xK))))))) eF)
  (bC (dX (bY fC (au 1) aK) (bH (cH (cG K3 hr rfl aR rfl (aA (bV bR (au 0) aD) aF)))) eF)
  (bC (dX (bY fC (au 1) aK) (bH (cH (au 1))) eF)
  (bC (cV 3 Np.nd rfl l! (bV bR (au 0) aD))
  (bH (cH (xH (iU (qw (au 1)) (iU aK (iU (qw (au 3)) xK)))))))))))))
T! ae2:b7 ["condition","loose","text"] ["condition","loose"] (bf Wa):=by walk_at "sc"
T! amo{a:Ad}{k:Nat}(T:Tx K mg a)(F:cF K "show_bound" "show_bound" Wa f fd)
    (Ge:H! k "show_condition" ["condition"] (bu 1 K lX)):
    F! (k+1) f fd ["condition","loose"] (bu 2 K λds=>aL (Es a lX (aM 3 ds))):=
 fK F ae2 λcdv A outer s H E hr=>(bC (cV 2 ae2.nd rfl l! (cG Ge hr rfl aR rfl (aA (au 0) aF)))
  (bH (cH (zU (bY (pN hr.units) (bV bR (au 0) aD) (au 1)) (xH (iU aK (iU (qw (au 2)) (iU aK xK)))) (au 2)))))
T! ae3:b7 ["condition","kind"] ["condition"] (bf Wb):=by walk_at "sc"
T! amq{a:Ad}{k:Nat}(T:Tx K mg a)(F:cF K "show_condition" "show_condition" Wb f fd)
    (K1:H! k "show_bound" ["condition","loose"] (bu 2 K wZ))
    (Ge:H! k "show_condition" ["condition"] (bu 1 K lX))
    (Av:H! k "joined" ["left","sign","right"] (bu 3 K qe))
    (xX:H! k "show_term" ["term"] (bu 1 K nD)):
    F! (k+1) f fd ["condition"] (bu 1 K λds=>aL (mW a wZ lX qe nD (aM 2 ds))):=
 fK F ae3 λcdv A outer s H E hr=>(bC (cV 1 ae3.nd rfl l! (bV bR (au 0) aD))
  (bC (dX (bY fC (au 1) aK) (bH (cH (cG Av hr rfl aR rfl (aA (cG Ge hr rfl aR rfl (aA (bV bR (au 0) aD) aF)) (aA (au 1) (aA (cG K1 hr rfl aR rfl (aA (bV bR (au 0) aD) (aA (dG (aA aK aF)) aF))) aF)))))) eF)
  (bC (dX (bY fC (au 1) aK) (bH (cH (cG Av hr rfl aR rfl (aA (cG K1 hr rfl aR rfl (aA (bV bR (au 0) aD) (aA (dG (aA aK aF)) aF))) (aA (au 1) (aA (cG K1 hr rfl aR rfl (aA (bV bR (au 0) aD) (aA (dG (aA aK (aA aK aF))) aF))) aF)))))) eF)
  (bC (dX (bY fC (au 1) aK) (bH (cH (aX cu aK (cG K1 hr rfl aR rfl (aA (bV bR (au 0) aD) (aA (dG (aA aK (aA aK aF))) aF)))))) eF)
  (bH (cH (cG Av hr rfl aR rfl (aA (cG xX hr rfl aR rfl (aA (bV bR (au 0) aD) aF)) (aA (au 1) (aA (cG xX hr rfl aR rfl (aA (bV bR (au 0) aD) aF)) aF))))))))))
T! apR:b7 ["_law_script","_law_k"] ["_law_script","_law_k"] (bf Wy):=by walk_at "sc"
D! Ew(a:Ad):Ev->RT:=(aZ (c7 (b1 tB (d2 nZ &1 (dA cj (ak &0 aB)))) (bU (d2 aO &0 &1)) dj)
    (bU #0))
T! amx{a:Ad}(T:Tx K mg a)(F:cF K "_law_cell_at" "_law_cell_at" Wy f fd):
    F! 1 f fd ["_law_script","_law_k"] (bu 2 K λds=>aL (Ew a (aM 2 ds))):=
 fK F apR λcdv A outer s H E hr=>(bC (dX (bY wB (au 1) (dJ jl rfl T.gU iu (aA (au 0) aF))) (bH (cH (bV bR (au 0) (au 1)))) eF)
  (bH (cH aD)))
T! Cg:b7 ["_law_top","_law_bottom","_law_one","_law_other","_law_rest_here"] ["_law_top","_law_bottom"] (bf WT):=by walk_at "sc"
T! amF{a:Ad}(T:Tx K mg a)(F:cF K "_law_lowest" "_law_lowest" WT f fd):
    F! 1 f fd ["_law_top","_law_bottom"] (bu 2 K λds=>aL (Kr a (aM 5 ds))):=
 fK F Cg λcdv A outer s H E hr=>(bC (cV 2 Cg.nd rfl l! (au 0))
  (bC (cV 3 Cg.nd rfl l! (au 1))
  (bC (aa2 10000000000000000000000000000000000000000000000000000000000000000000000000000000000000000000000000000000000000000000000000000000000000000000000000000000000000000000000000000000000000000000000000000000000000000000000000000000000000000000000000000000000000000000000000000000000000000000000000000000000000000000000000000000000000000000000000000000000000000000000000000000000000000000000000000000000000000 pP (bY mz (au 3) aD) (bC (cV 4 Cg.nd rfl l! (aX iz (au 2) (au 3)))
  (bC (cV 2 Cg.nd rfl l! (au 3))
  (bH (cV 3 Cg.nd rfl l! (au 4))))))
  (bH (cH (dG (aA (aX jU (au 0) (au 2)) (aA (aX jU (au 1) (au 2)) aF))))))))
T! apU:b7 ["_law_cell"] ["_law_cell"] (bf WM):=by walk_at "sc"
T! amC{a:Ad}(T:Tx K mg a)(F:cF K "_law_fraction" "_law_fraction" WM f fd)
    (abH:H! 1 "_law_lowest" ["_law_top","_law_bottom"] (bu 2 K Dg)):
    F! 2 f fd ["_law_cell"] (bu 1 K λds=>aL (Am a Dg (aM 1 ds))):=
 fK F apU λcdv A outer s H E hr=>(bC (dX (bY fC (aX iz (au 0) aD) aD) (bH (cH (dG (aA (aX iz (aX jU (au 0) aD) aD) (aA aD aF))))) eF)
  (bC (dX (bY fC (aX iz (au 0) aD) aD) (bH (cH (cG abH hr rfl aR rfl (aA (aX iz (aX jU (au 0) aD) aD) (aA (aX cu aD (aX iz (aX jU (au 0) aD) aD)) aF))))) eF)
  (bH (cH (cG abH hr rfl aR rfl (aA (aX iz (aX jU (au 0) aD) (aX anz aD aD)) (aA (aX cu aD (aX iz (aX yz (au 0) aD) aD)) aF)))))))
T! Wm:b7 ["_law_cell","_law_k","_law_size","_law_place"] ["_law_cell","_law_k"] (bf WW):=by walk_at "sc"
T! amG{a:Ad}(T:Tx K mg a)(F:cF K "_law_mast" "_law_mast" WW f fd):
    F! 1 f fd ["_law_cell","_law_k"] (bu 2 K λds=>aL (Ks a (aM 4 ds))):=
 fK F Wm λcdv A outer s H E hr=>(bC (cV 2 Wm.nd rfl l! (aX cu aD (aX iz (au 0) aD)))
  (bC (cV 3 Wm.nd rfl l! (aX iz (aX jU (au 0) aD) (au 2)))
  (bH (cH (aX cu (aX cu (aX yz aK (au 3)) (bV bR aK (aX iz (au 1) aD))) (aX yz aK (aX wC (aX wC (au 2) aD) (au 3))))))))
T! Wn:b7 ["_law_one","_law_text"] ["_law_one"] (bf W4):=by walk_at "sc"
T! amM{a:Ad}(T:Tx K mg a)(F:cF K "_law_show" "_law_show" W4 f fd):
    F! 1 f fd ["_law_one"] (bu 1 K λds=>aL (Kz a (aM 2 ds))):=
 fK F Wn λcdv A outer s H E hr=>(bC (cV 1 Wn.nd rfl l! (qu Eb rfl T.rK ud (aA (bV bR (au 0) aD) aF)))
  (bC (dX (bY mz (bV bR (au 0) aD) aD) (bH (cV 1 Wn.nd rfl l! (aX cu (aX cu (au 1) aK) (qu Eb rfl T.rK ud (aA (bV bR (au 0) aD) aF))))) eF)
  (bH (cH (au 1)))))
T! Cd:b7 ["_law_head","_law_cell","_law_kind","_law_n","_law_f","_law_mast_here","_law_word"] ["_law_head","_law_cell"] (bf WQ):=by walk_at "sc"
T! amE{a:Ad}(T:Tx K mg a)(F:cF K "_law_leaf" "_law_leaf" WQ f fd)
    (RD:H! 2 "_law_fraction" ["_law_cell"] (bu 1 K vy))
    (RJ:H! 2 "_law_show" ["_law_one"] (bu 1 K vB))
    (ajS:H! 2 "_law_mast" ["_law_cell","_law_k"] (bu 2 K IV)):
    F! 3 f fd ["_law_head","_law_cell"] (bu 2 K λds=>aL (xQ a vy vB IV (aM 7 ds))):=
 fK F Cd λcdv A outer s H E hr=>(bC (cV 2 Cd.nd rfl l! (aX iz (au 1) aD))
  (bC (cV 3 Cd.nd rfl l! (aX cu aD (aX iz (aX jU (au 1) aD) aD)))
  (bC (dX (bY wB (au 2) aD) (bC (cV 4 Cd.nd rfl l! (cG RD hr rfl aR rfl (aA (aX jU (au 1) aD) aF)))
  (bH (cH (dG (aA (dG (aA aK (aA (au 4) aF))) (aA (cG RJ hr rfl aR rfl (aA (au 4) aF)) (aA aD aF))))))) eF)
  (bC (dX (bY fC (au 2) aD) (bH (cH (dG (aA (dG (aA aK aF)) (aA aK (aA aD aF)))))) eF)
  (bC (dX (bY fC (au 2) aD) (bC (cV 5 Cd.nd rfl l! (cG ajS hr rfl aR rfl (aA (au 0) (aA (aX jU (au 1) aD) aF))))
  (bH (cH (dG (aA (dG (aA aK (aA (au 5) aF))) (aA (aX cu aK (au 5)) (aA aD aF))))))) eF)
  (bC (cV 6 Cd.nd rfl l! (bV bR (DN.de (sy (aA aK (aA aK (aA aK (aA aK aF)))))) (aX wC (au 2) aD)))
  (bH (cH (dG (aA (dG (aA (au 6) (aA (au 3) aF))) (aA (aX cu (aX cu (au 6) aK) (qu Eb rfl T.rK ud (aA (au 3) aF))) (aA aD aF))))))))))))
T! apV:b7 ["_law_one","_law_least","_law_brackets"] ["_law_one","_law_least","_law_brackets"] (bf W2):=by walk_at "sc"
T! amK{a:Ad}(T:Tx K mg a)(F:cF K "_law_put" "_law_put" W2 f fd):
    F! 1 f fd ["_law_one","_law_least","_law_brackets"] (bu 3 K λds=>aL (Kw a (aM 3 ds))):=
 fK F apV λcdv A outer s H E hr=>(bC (dX (bY wB (bV bR (au 0) aD) (au 1)) (bH (cH (aX cu (aX cu (bV bR (au 2) aD) (bV bR (au 0) aD)) (bV bR (au 2) aD)))) eF)
  (bH (cH (bV bR (au 0) aD))))
T! ae8:b7 ["_law_one","_law_other","_law_sign","_law_text"] ["_law_one","_law_other","_law_sign"] (bf W7):=by walk_at "sc"
T! amP{a:Ad}(T:Tx K mg a)(F:cF K "_law_sum" "_law_sum" W7 f fd)
    (uw:H! 1 "_law_put" ["_law_one","_law_least","_law_brackets"] (bu 3 K kO)):
    F! 2 f fd ["_law_one","_law_other","_law_sign"] (bu 3 K λds=>aL (KH a kO (aM 4 ds))):=
 fK F ae8 λcdv A outer s H E hr=>(bC (cV 3 ae8.nd rfl l! (aX cu (aX cu (aX cu (aX cu (cG uw hr rfl aR rfl (aA (au 0) (aA aD (aA aK aF)))) aK) (au 2)) aK) (cG uw hr rfl aR rfl (aA (au 1) (aA aD (aA aK aF))))))
  (bH (cH (dG (aA (dG (aA (au 2) (aA (bV bR (au 0) aD) (aA (bV bR (au 1) aD) aF)))) (aA (au 3) (aA aD aF)))))))
T! ae6:b7 ["_law_one","_law_cell","_law_f"] ["_law_one","_law_cell"] (bf WY):=by walk_at "sc"
T! amI{a:Ad}(T:Tx K mg a)(F:cF K "_law_over_term" "_law_over_term" WY f fd)
    (RD:H! 2 "_law_fraction" ["_law_cell"] (bu 1 K vy))
    (RJ:H! 2 "_law_show" ["_law_one"] (bu 1 K vB))
    (uw:H! 2 "_law_put" ["_law_one","_law_least","_law_brackets"] (bu 3 K kO)):
    F! 3 f fd ["_law_one","_law_cell"] (bu 2 K λds=>aL (Ex a vy vB kO (aM 3 ds))):=
 fK F ae6 λcdv A outer s H E hr=>(bC (dX (bY fC (aX iz (au 1) aD) aD) (bH (cH (dG (aA (dG (aA aK (aA (bV bR (au 0) aD) aF))) (aA (aX cu (aX cu aK (bV bR (au 0) aD)) aK) (aA aD aF)))))) eF)
  (bC (cV 2 ae6.nd rfl l! (cG RD hr rfl aR rfl (aA (aX jU (au 1) aD) aF)))
  (bH (cH (dG (aA (dG (aA aK (aA (au 2) (aA (bV bR (au 0) aD) aF)))) (aA (aX cu (aX cu (cG RJ hr rfl aR rfl (aA (au 2) aF)) aK) (cG uw hr rfl aR rfl (aA (au 0) (aA aD (aA aK aF))))) (aA aD aF))))))))
T! apS:b7 ["_law_one","_law_other","_law_sign"] ["_law_one","_law_other","_law_sign"] (bf Wz):=by walk_at "sc"
T! amy{a:Ad}(T:Tx K mg a)(F:cF K "_law_compared" "_law_compared" Wz f fd):
    F! 1 f fd ["_law_one","_law_other","_law_sign"] (bu 3 K λds=>aL (Kh a (aM 3 ds))):=
 fK F apS λcdv A outer s H E hr=>(bH (cH (dG (aA (dG (aA (au 2) (aA (bV bR (au 0) aD) (aA (bV bR (au 1) aD) aF)))) (aA (aX cu (aX cu (aX cu (aX cu (bV bR (au 0) aD) aK) (au 2)) aK) (bV bR (au 1) aD)) (aA aD aF))))))
T! Wl:b7 ["_law_one","_law_other","_law_word","_law_rank","_law_text"] ["_law_one","_law_other","_law_word"] (bf WN):=by walk_at "sc"
T! amD{a:Ad}(T:Tx K mg a)(F:cF K "_law_joined" "_law_joined" WN f fd)
    (uw:H! 1 "_law_put" ["_law_one","_law_least","_law_brackets"] (bu 3 K kO)):
    F! 2 f fd ["_law_one","_law_other","_law_word"] (bu 3 K λds=>aL (Kq a kO (aM 5 ds))):=
 fK F Wl λcdv A outer s H E hr=>(bC (cV 3 Wl.nd rfl l! (aX cu aD (qu aax rfl T.tZ vN (aA (rW fC (au 2) aK) aF))))
  (bC (cV 4 Wl.nd rfl l! (aX cu (aX cu (aX cu (aX cu (cG uw hr rfl aR rfl (aA (au 0) (aA (au 3) (aA aK aF)))) aK) (au 2)) aK) (cG uw hr rfl aR rfl (aA (au 1) (aA (aX cu (au 3) aD) (aA aK aF))))))
  (bH (cH (dG (aA (dG (aA (au 2) (aA (bV bR (au 0) aD) (aA (bV bR (au 1) aD) aF)))) (aA (au 4) (aA (au 3) aF))))))))
T! apT:b7 ["_law_one"] ["_law_one"] (bf WK):=by walk_at "sc"
T! amA{a:Ad}(T:Tx K mg a)(F:cF K "_law_denied" "_law_denied" WK f fd)
    (uw:H! 1 "_law_put" ["_law_one","_law_least","_law_brackets"] (bu 3 K kO)):
    F! 2 f fd ["_law_one"] (bu 1 K λds=>aL (Km a kO (aM 1 ds))):=
 fK F apT λcdv A outer s H E hr=>(bH (cH (dG (aA (dG (aA aK (aA (bV bR (au 0) aD) aF))) (aA (aX cu aK (cG uw hr rfl aR rfl (aA (au 0) (aA aD (aA aK aF))))) (aA aD aF))))))
T! ae7:b7 ["_law_terms","_law_conds","_law_made"] ["_law_terms","_law_conds"] (bf W3):=by walk_at "sc"
T! amL{a:Ad}(T:Tx K mg a)(F:cF K "_law_rest" "_law_rest" W3 f fd):
    F! 1 f fd ["_law_terms","_law_conds"] (bu 2 K λds=>aL (Ky a (aM 3 ds))):=
 fK F ae7 λcdv A outer s H E hr=>(bC (cV 2 ae7.nd rfl l! (aX cu (au 1) (aX jU (aX cu (au 0) aD) aD)))
  (bH (cH (aX cu (aX cu (aX cu (aX jU (aX cu (au 0) aD) aD) (aX iz (au 0) aD)) (dJ (Qo rfl) rfl T.Ju Qi (aA aD (aA (aX wC (au 2) aD) aF)))) (aX yz aD (qu aax rfl T.tZ vN (aA (rW fC (au 2) aD) aF)))))))
T! yK:b7 ["_law_state","_law_cell","_law_head","_law_terms","_law_conds","_law_kind","_law_other"] ["_law_state","_law_cell","_law_head"] (bf W5):=by walk_at "sc"
T! amN{a:Ad}(T:Tx K mg a)(F:cF K "_law_step" "_law_step" W5 f fd)
    (ajY:H! 3 "_law_sum" ["_law_one","_law_other","_law_sign"] (bu 3 K I8))
    (ajU:H! 3 "_law_over_term" ["_law_one","_law_cell"] (bu 2 K IW))
    (RC:H! 3 "_law_compared" ["_law_one","_law_other","_law_sign"] (bu 3 K pD))
    (ajP:H! 3 "_law_denied" ["_law_one"] (bu 1 K Iz))
    (RG:H! 3 "_law_joined" ["_law_one","_law_other","_law_word"] (bu 3 K pF))
    (ajR:H! 3 "_law_leaf" ["_law_head","_law_cell"] (bu 2 K IK)):
    F! 4 f fd ["_law_state","_law_cell","_law_head"] (bD 3 K λzs S=>bw (KC a I8 IW pD Iz pF IK S.length (bG 7 zs) S)):=
 nO F yK λb cdv A outer s H E hr=>(bL (fP 3 yK.nd rfl l! (q8 hr.units (bJ 0) aK))
  (bL (fP 4 yK.nd rfl l! (q8 hr.units (bJ 0) aK))
  (bL (fP 5 yK.nd rfl l! (bA (aX iz (au 1) aD)))
  (bL (iM (vg (DW.dt (Ei (bY (pN hr.units) (au 5) (dG (aA aD (aA aD aF)))) (Ej (bY mz (dJ jl rfl T.gU iu (aA (au 3) aF)) aD))))) (bL (fP 6 yK.nd rfl l! (pB 3 PySem.F.plainAttrs_list PySem.F.slot_list_pop PySem.F.type_list_pop))
  (cL (pY 3 PySem.F.plainAttrs_list PySem.F.slot_list_append PySem.F.type_list_append (pX ajY hr rfl aR rfl (bB (pB 3 PySem.F.plainAttrs_list PySem.F.slot_list_pop PySem.F.type_list_pop) (bB (bA (au 6)) (bB (bA (bV bR (DN.de (sy (aA aK (aA aK aF)))) (aX wC (au 5) aD))) cN))))))) (cL (iM (ZW.zt (agV (vf (bY (pN hr.units) (au 5) (dG (aA aD (aA aD aF))))) (agV (vg (bY mz (dJ jl rfl T.gU iu (aA (au 3) aF)) aD)) (asa (oK wB (q8 hr.units (bJ 0) aK) (bA aD)))))) (bL (pY 3 PySem.F.plainAttrs_list PySem.F.slot_list_append PySem.F.type_list_append (pX ajU hr rfl aR rfl (bB (pB 3 PySem.F.plainAttrs_list PySem.F.slot_list_pop PySem.F.type_list_pop) (bB (bA (aX jU (au 1) aD)) cN))))
  (cL (agT hr.units (bJ 0) aK (CW cu (q8 hr.units (bJ 0) aK) (bA aD))))) (cL (iM (vg (DW.dt (Ei (bY (pN hr.units) (au 5) (dG (aA aD (aA aD aF)))) (Ej (bY mz (dJ jl rfl T.gU iu (aA (au 3) aF)) aD))))) (bL (fP 6 yK.nd rfl l! (pB 3 PySem.F.plainAttrs_list PySem.F.slot_list_pop PySem.F.type_list_pop))
  (cL (pY 4 PySem.F.plainAttrs_list PySem.F.slot_list_append PySem.F.type_list_append (pX RC hr rfl aR rfl (bB (pB 3 PySem.F.plainAttrs_list PySem.F.slot_list_pop PySem.F.type_list_pop) (bB (bA (au 6)) (bB (bA (bV bR (DN.de (sy (aA aK (aA aK aF)))) (aX wC (au 5) aD))) cN))))))) (cL (iM (vg (DW.dt (Ei (bY fC (au 5) aD) (Ej (bY mz (dJ jl rfl T.gU iu (aA (au 4) aF)) aD))))) (cL (pY 4 PySem.F.plainAttrs_list PySem.F.slot_list_append PySem.F.type_list_append (pX ajP hr rfl aR rfl (bB (pB 4 PySem.F.plainAttrs_list PySem.F.slot_list_pop PySem.F.type_list_pop) cN)))) (cL (iM (vg (DW.dt (Ei (bY (pN hr.units) (au 5) (dG (aA aD (aA aD aF)))) (Ej (bY mz (dJ jl rfl T.gU iu (aA (au 4) aF)) aD))))) (bL (fP 6 yK.nd rfl l! (pB 4 PySem.F.plainAttrs_list PySem.F.slot_list_pop PySem.F.type_list_pop))
  (cL (pY 4 PySem.F.plainAttrs_list PySem.F.slot_list_append PySem.F.type_list_append (pX RG hr rfl aR rfl (bB (pB 4 PySem.F.plainAttrs_list PySem.F.slot_list_pop PySem.F.type_list_pop) (bB (bA (au 6)) (bB (bA (bV bR (DN.de (sy (aA aK (aA aK aF)))) (aX wC (au 5) aD))) cN))))))) (cL (pY 3 PySem.F.plainAttrs_list PySem.F.slot_list_append PySem.F.type_list_append (bA (cG ajR hr rfl aR rfl (aA (au 2) (aA (aX jU (au 1) aD) aF)))))))))))))))
  (cL (agT hr.units (bJ 0) aK (CW cu (q8 hr.units (bJ 0) aK) (bA aD))))))))
T! Ca:b7 ["_law_state","_law_word","_law_terms","_law_conds","_law_here","_law_other"] ["_law_state","_law_word"] (bf WL):=by walk_at "sc"
T! amB{a:Ad}(T:Tx K mg a)(F:cF K "_law_ended" "_law_ended" WL f fd)
    (RC:H! 2 "_law_compared" ["_law_one","_law_other","_law_sign"] (bu 3 K pD))
    (RG:H! 2 "_law_joined" ["_law_one","_law_other","_law_word"] (bu 3 K pF)):
    F! 3 f fd ["_law_state","_law_word"] (bD 2 K λzs S=>bw (Ko a pD pF S.length (bG 6 zs) S)):=
 nO F Ca λb cdv A outer s H E hr=>(bL (fP 2 Ca.nd rfl l! (q8 hr.units (bJ 0) aK))
  (bL (fP 3 Ca.nd rfl l! (q8 hr.units (bJ 0) aK))
  (bL (fP 4 Ca.nd rfl l! (bA (dG (aA (dG (aA aK aF)) (aA aK (aA aD aF))))))
  (bL (iM (vg (bY fC (aX cu (dJ jl rfl T.gU iu (aA (au 2) aF)) (dJ jl rfl T.gU iu (aA (au 3) aF))) aD)) (cL (pY 2 PySem.F.plainAttrs_list PySem.F.slot_list_append PySem.F.type_list_append (bA (au 4)))) km)
  (bL (iM (vg (bY fC (aX iz (dJ jl rfl T.gU iu (aA (au 2) aF)) aD) aD)) (cL (pY 2 PySem.F.plainAttrs_list PySem.F.slot_list_append PySem.F.type_list_append (bA (au 4)))) km)
  (bL (Im 100 pP (vg (bY mz (dJ jl rfl T.gU iu (aA (au 2) aF)) aD)) (bL (fP 5 Ca.nd rfl l! (pB 2 PySem.F.plainAttrs_list PySem.F.slot_list_pop PySem.F.type_list_pop))
  (cL (pY 3 PySem.F.plainAttrs_list PySem.F.slot_list_append PySem.F.type_list_append (pX RC hr rfl aR rfl (bB (pB 2 PySem.F.plainAttrs_list PySem.F.slot_list_pop PySem.F.type_list_pop) (bB (bA (au 5)) (bB (bA aK) cN))))))))
  (bL (Im 100 pP (vg (bY mz (dJ jl rfl T.gU iu (aA (au 3) aF)) aD)) (bL (fP 5 Ca.nd rfl l! (pB 3 PySem.F.plainAttrs_list PySem.F.slot_list_pop PySem.F.type_list_pop))
  (cL (pY 3 PySem.F.plainAttrs_list PySem.F.slot_list_append PySem.F.type_list_append (pX RG hr rfl aR rfl (bB (pB 3 PySem.F.plainAttrs_list PySem.F.slot_list_pop PySem.F.type_list_pop) (bB (bA (au 5)) (bB (bA (au 1)) cN))))))))
  (cL (jd (ar5 (bV bR (au 3) aD)))))))))))
T! HB:b7 ["_law_head","_law_cells","_law_word","_law_state","_law_cell","_law_many","_law_rest_here"] ["_law_head","_law_cells","_law_word"] (bf WD):=by walk_at "sc"
T! amz{a:Ad}(T:Tx K mg a)(F:cF K "_law_condition" "_law_condition" WD f fd)
    (abI:H! 4 "_law_rest" ["_law_terms","_law_conds"] (bu 2 K xf))
    (ajW:H! 4 "_law_step" ["_law_state","_law_cell","_law_head"] (bD 3 K zu))
    (ajQ:H! 4 "_law_ended" ["_law_state","_law_word"] (bD 2 K zq)):
    F! 5 f fd ["_law_head","_law_cells","_law_word"] (bD 3 K λzs S=>bw (Kl a xf zu zq S.length (bG 7 zs) S)):=
 nO F HB λb cdv A outer s H E hr=>(bL (fP 3 HB.nd rfl l! (arZ (Oo (Om (sy aF)) (Oo (Om (sy aF)) (Oo (bA aD) (Oo (bA aD) ar7))))))
  (bL (agU pP rfl (ue (au 1)) (agR 4 HB.nd rfl l!) (bL (fP 5 HB.nd rfl l! (YM rfl rfl T.gU iu (q8 hr.units (bJ 3) aK)))
  (bL (fP 6 HB.nd rfl l! (agQ (Qo rfl) rfl T.Ju Qi (bB (pX abI hr rfl aR rfl (bB (YM rfl rfl T.gU iu (q8 hr.units (bJ 3) aK)) (bB (bA (au 5)) cN))) (bB (pX abI hr rfl aR rfl (bB (CW cu (YM rfl rfl T.gU iu (q8 hr.units (bJ 3) aK)) (bA aD)) (bB (bA (au 5)) cN))) cN))))
  (bL (iM (oK mz (CW cu (CW cu (q8 hr.units (bJ 3) aK) (bA aD)) (bA (au 6))) (bA aD)) (cL ar8) km)
  (cL (kj (jW ajW hr rfl aR rfl (bB (bJ 3) (bB (bA (au 4)) (bB (bA (au 0)) cN))))))))))
  (cL (jd (jW ajQ hr rfl aR rfl (bB (bJ 3) (bB (bA (au 2)) cN)))))))
T! apQ:b7 ["_law_found","_law_due"] ["_law_found","_law_due"] (bf Wx):=by walk_at "sc"
D! gm(a:Ad)(lG:R!):Ev->RT:=(aZ (c7 (b1 tT (dA (eX a.d9) (ak &1 (ak (dC (.ty "tuple")) aB)))) (aZ (c7 (kY (ji (b1 tT (dA (eX a.d9) (ak &0 (ak (dC (.ty "tuple")) aB))))) (b1 tB (d2 fY (dA cj (ak &0 aB)) (dA cj (ak &1 aB))))) (bU (dC (.bl false))) dj)
    (bU (dA tX (ak (jh (kZ (λρ=>((ak (dA cj (ak &1 aB)) aB) ρ).bind mC) 1 [1,0] (gV 0) (λ_=>.ok true) (dA lG (ak (d2 aO &2 &0) (ak (d2 aO &1 &0) aB))))) aB)))) dj)
    (aZ (c7 (b1 tT (dA (eX a.d9) (ak &1 (ak (dC (.ty "str")) aB)))) (bU (vQ (dA (eX a.d9) (ak &0 (ak (dC (.ty "str")) aB))) (d2 cX &0 &1))) dj)
    (bU (vQ (dA (eX a.d9) (ak &0 (ak (dC (.ty "int")) aB))) (vQ (vR (dA (eX a.d9) (ak &0 (ak (dC (.ty "bool")) aB)))) (d2 cX &0 &1))))))
T! amw{a:Ad}{k:Nat}(T:Tx K mg a)(F:cF K "_law_alike" "_law_alike" Wx f fd)
    (Az:H! k "_law_alike" ["_law_found","_law_due"] (bu 2 K lG)):
    F! (k+1) f fd ["_law_found","_law_due"] (bu 2 K λds=>aL (gm a lG (aM 2 ds))):=
 fK F apQ λcdv A outer s H E hr=>(bC (dX (mj (dJ (rQ T.pK) rfl T.qp rP (aA (au 1) (aA (rZ rfl T.Qc aas) aF)))) (bC (dX (DW.dt (qx (pH (mj (dJ (rQ T.pK) rfl T.qp rP (aA (au 0) (aA (rZ rfl T.Qc aas) aF))))) (vX (bY qM (dJ jl rfl T.gU iu (aA (au 0) aF)) (dJ jl rfl T.gU iu (aA (au 1) aF)))))) (bH (cH vU)) eF)
  (bH (cH (dJ (JC rfl) rfl T.DR Jy (aA (DN.de (vm.dn (aiT (Nt:=["_law_k"]) (tn:=1) (x:="_law_due") (y:="_law_found") 1 0 [(".0",.local),("_law_k",.local),("_law_alike",.globalImplicit),("_law_due",.cell),("_law_found",.cell)] d? rfl (QM rfl T.Jv (aA (dJ jl rfl T.gU iu (aA (au 1) aF)) aF)) (λ_ _ _ _=>(sr 0 (show List.Nodup (["_law_k","_law_due","_law_found"]:List Str)from by decide+kernel) rfl l!)) (by simp) (λ_ _ _ _=>Eg) (λ_ _ _ _=>(cG Az hr rfl ac5 rfl (aA (bV bR (au 2) (au 0)) (aA (bV bR (au 1) (au 0)) aF)))) rfl k? k? rfl rfl rfl rfl rfl rfl rfl rfl rfl k? k?))) aF))))) eF)
  (bC (dX (mj (dJ (rQ T.pK) rfl T.qp rP (aA (au 1) (aA (rZ rfl T.rK ud) aF)))) (bH (cH (zT (dJ (rQ T.pK) rfl T.qp rP (aA (au 0) (aA (rZ rfl T.rK ud) aF))) (xJ (rW fC (au 0) (au 1)))))) eF)
  (bH (cH (zT (dJ (rQ T.pK) rfl T.qp rP (aA (au 0) (aA (rZ rfl T.tZ vN) aF))) (zT (JM (dJ (rQ T.pK) rfl T.qp rP (aA (au 0) (aA (rZ rfl T.Qa aar) aF)))) (xJ (rW fC (au 0) (au 1)))))))))
T! yL:b7 ["_law_text","_law_cell","_law_some","_law_k"] ["_law_text","_law_cell"] (bf W6):=by walk_at "sc"
D! xG(a:Ad):Ev->RT:=(c7 (b1 tB (d2 cT (d2 aO &0 &3) #"()[]+-*<=")) (aZ (bZ 2 (d2 aP &2 (d2 lr #" " (d2 eZ (d2 fW &1 (d2 aP #1 (d2 eZ &3 #7))) #3))))
    (bZ 2 (d2 aP (d2 aP &2 (d2 aO &0 &3)) (d2 lr #" " (d2 eZ (d2 fW &1 (d2 aP #1 (d2 eZ &3 #5))) #2))))) (c7 (b1 tB (d2 cX (d2 aO &0 &3) #" ")) (bZ 2 (d2 aP &2 (d2 lr #" " (d2 aP #1 (d2 eZ (d2 fW &1 (d2 aP #1 (d2 eZ &3 #3))) #2))))) (bZ 2 (d2 aP &2 (d2 aO &0 &3)))))
D! KD(a:Ad):Ev->RT:=(aZ (bZ 2 #"")
    (aZ (Hy (λρ=>((ak (dA cj (ak &0 aB)) aB) ρ).bind mC) (gV 3) (xG a))
    (bU &2)))
T! amO{a:Ad}(T:Tx K mg a)(F:cF K "_law_strewn" "_law_strewn" W6 f fd):
    F! 1 f fd ["_law_text","_law_cell"] (bu 2 K λds=>aL (KD a (aM 4 ds))):=
 fK F yL λcdv A outer s H E hr=>(bC (cV 2 yL.nd rfl l! aK)
  (bC (QV pP rfl (QM rfl T.Jv (aA (dJ jl rfl T.gU iu (aA (au 0) aF)) aF)) (sr 3 yL.nd rfl l!) (bH (dX (bY (pN hr.units) (bV bR (au 0) (au 3)) aK) (bC (cV 2 yL.nd rfl l! (aX cu (au 2) (aX yz aK (aX iz (aX jU (au 1) (aX cu aD (aX iz (au 3) aD))) aD))))
  (bH (cV 2 yL.nd rfl l! (aX cu (aX cu (au 2) (bV bR (au 0) (au 3))) (aX yz aK (aX iz (aX jU (au 1) (aX cu aD (aX iz (au 3) aD))) aD)))))) (bH (dX (bY fC (bV bR (au 0) (au 3)) aK) (bH (cV 2 yL.nd rfl l! (aX cu (au 2) (aX yz aK (aX cu aD (aX iz (aX jU (au 1) (aX cu aD (aX iz (au 3) aD))) aD)))))) (bH (cV 2 yL.nd rfl l! (aX cu (au 2) (bV bR (au 0) (au 3))))))))))
  (bH (cH (au 2)))))
T! Nq:b7 ["_law_text","_law_pairs_here","_law_waiting","_law_k"] ["_law_text"] (bf W0):=by walk_at "sc"
D! zJ(a:Ad):aJ->aC->aU:=(aY (dH (zB (b1 tB (d2 cT (d2 aO &0 &3) #"(["))) (jb 2 (zD &3)) f9)
    (dH (zB (b1 tB (d2 cT (d2 aO &0 &3) #")]"))) (jb 1 (zF bK (aN (jw 2) (aN (zD &3) aW)))) f9))
D! Kv(a:Ad)(b:Nat):aJ->aC->aU:=(aY (cU 1 (u9 (λρ=>(aB ρ).bind jM)))
    (aY (cU 2 (u9 (λρ=>(aB ρ).bind jM)))
    (aY (CT (λρ=>((ak (dA cj (ak &0 aB)) aB) ρ).bind mC) (hV 3) (zJ a))
    (Oh b 1 (fD (zD (jh (kZ (λρ=>(&1 ρ).bind jH) 1 [0] (gV 0) (b1 tB (d2 fY (iG ig &1 (λρ=>((dA n6 (ak #0 (ak (d2 mG (d2 aO &0 #0) #3) aB))) ρ).bind pI) (λρ=>((d2 aO &0 #0) ρ).bind pI)) #"abs")) &0))))))))
T! amJ{a:Ad}(T:Tx K mg a)(F:cF K "_law_pairs" "_law_pairs" W0 f fd):
    F! 1 f fd ["_law_text"] (bD 1 K λzs S=>bw (Kv a S.length (bG 4 zs) S)):=
 nO F Nq λb cdv A outer s H E hr=>(bL (fP 1 Nq.nd rfl l! (Om (sy aF)))
  (bL (fP 2 Nq.nd rfl l! (Om (sy aF)))
  (bL (agU pP rfl (QM rfl T.Jv (aA (dJ jl rfl T.gU iu (aA (au 0) aF)) aF)) (agR 3 Nq.nd rfl l!) (bL (iM (vf (bY (pN hr.units) (bV bR (au 0) (au 3)) aK)) (cL (pY 2 PySem.F.plainAttrs_list PySem.F.slot_list_append PySem.F.type_list_append (bA (au 3)))) km)
  (cL (iM (vf (bY (pN hr.units) (bV bR (au 0) (au 3)) aK)) (cL (pY 1 PySem.F.plainAttrs_list PySem.F.slot_list_append PySem.F.type_list_append (tH (bB (pB 2 PySem.F.plainAttrs_list PySem.F.slot_list_pop PySem.F.type_list_pop) (bB (bA (au 3)) cN))))) km))))
  (cL (ar9 1 (jd (bA (DN.de (aiR (Nt:=["_law_pair"]) (tn:=1) (x:="_law_text") 0 [(".0",.local),("_law_pair",.local),("max",.globalImplicit),("_law_text",.cell)] rfl (ue (au 1)) (λ_ _ _ _=>(sr 0 (show List.Nodup (["_law_pair","_law_text"]:List Str)from by decide+kernel) rfl l!)) (by simp) (λ_ _ _ _=>aaU (bY qM (zW Cq (au 1) (vV (dJ (Qo rfl) rfl T.Ju Qi (aA aD (aA (aX wC (bV bR (au 0) aD) aD) aF)))) (vV (bV bR (au 0) aD))) aK)) (λ_ _ _ _=>(au 0)) rfl k? k? rfl rfl rfl rfl rfl rfl k? k?)))))))))
T! HD:b7 ["_law_text","_law_pair","_law_due","_law_bare","_law_found"] ["_law_text","_law_pair","_law_due"] (bf WX):=by walk_at "sc"
D! Ku(a:Ad)(oN lG:R!):Ev->RT:=(aZ (bZ 3 (d2 aP (d2 aP (iG ig &0 (λ_=>.ok none) (λρ=>((d2 aO &1 #0) ρ).bind pI)) (iG ig &0 (λρ=>((d2 aP (d2 aO &1 #0) #1) ρ).bind pI) (λρ=>((d2 aO &1 #1) ρ).bind pI))) (iG ig &0 (λρ=>((d2 aP (d2 aO &1 #1) #1) ρ).bind pI) (λ_=>.ok none))))
    (aZ (bZ 4 (dC .non))
    (aZ (Hz (wy a.d9 a.NoText) (λρ=>((JL oN (ak &3 aB)) ρ).bind λd=>if 4<ρ.length then .ok (ρ.set 4 (.sh d))else .bad) (bZ 4 #"refused"))
    (bU (Ed (d2 xN &4 #"refused") (vR (dA lG (ak &4 (ak &2 aB)))))))))
T! amH{a:Ad}(T:Tx K mg a)(F:cF K "_law_needed" "_law_needed" WX f fd)
    (Lb:H! 168 "read_condition" ["text"] (bu 1 K oN))
    (Az:H! 168 "_law_alike" ["_law_found","_law_due"] (bu 2 K lG)):
    F! 169 f fd ["_law_text","_law_pair","_law_due"] (bu 3 K λds=>aL (Ku a oN lG (aM 5 ds))):=
 fK F HD λcdv A outer s H E hr=>(bC (cV 3 HD.nd rfl l! (aX cu (aX cu (zW Cq (au 0) JP (vV (bV bR (au 1) aD))) (zW Cq (au 0) (vV (aX cu (bV bR (au 1) aD) aD)) (vV (bV bR (au 1) aD)))) (zW Cq (au 0) (vV (aX cu (bV bR (au 1) aD) aD)) JP)))
  (bC (cV 4 HD.nd rfl l! aiM)
  (bC (aiY (wy a.d9 a.NoText) rfl rfl (aiJ 4 HD.nd rfl l! (ai3 Lb hr rfl rfl (aA (au 3) aF))) (λ_=>(bH (cV 4 HD.nd rfl l! aK))) (alE T.pK T.agM) rfl T.mV)
  (bH (cH (aaO (rW (ank hr.units) (au 4) aK) (xJ (JM (cG Az hr rfl aR rfl (aA (au 4) (aA (au 2) aF)))))))))))
T! sW:b7 ["_law_script","_law_made","_law_due","_law_text","_law_cell","_law_wide","_law_tight","_law_sign","_law_some","_law_pair"] ["_law_script"] (bf yJ):=by walk_at "sc"
D! DP(a:Ad)(rC vq lX vC oN lG vA vz:R!):Ev->RT:=(c7 (ji (b1 tT (dA lG (ak (dA oN (ak &8 aB)) (ak &2 aB))))) (bU (dC (.bl false))) dj)
D! DQ(a:Ad)(rC vq lX vC oN lG vA vz:R!):Ev->RT:=(c7 (ji (b1 tT (dA vz (ak &3 (ak &9 (ak &2 aB)))))) (bU (dC (.bl false))) dj)
D! Rh(a:Ad)(rC vq lX vC oN lG vA vz:R!):Ev->RT:=(aZ (bZ 1 (dA vq (ak (dA rC (ak &0 (ak #0 aB))) (ak (iG ig &0 (λρ=>(#2 ρ).bind pI) (λ_=>.ok none)) (ak (d2 aO (jh (λρ=>((ak #"and" (ak #"or" aB)) ρ).bind jM)) (d2 eZ (dA rC (ak &0 (ak #1 aB))) #2)) aB)))))
    (aZ (bZ 2 (d2 aO &1 #0))
    (aZ (bZ 3 (dA lX (ak &2 aB)))
    (aZ (c7 (kY (ji (b1 tT (dA (eX a.d9) (ak &3 (ak (dC (.ty "str")) aB))))) (kY (b1 tB (d2 fY (gM "str" iR &3 (ak #"(" aB)) (gM "str" iR &3 (ak #")" aB)))) (b1 tB (d2 fY (gM "str" iR &3 (ak #"[" aB)) (gM "str" iR &3 (ak #"]" aB)))))) (bU (dC (.bl false))) dj)
    (aZ (bZ 4 (dA rC (ak &0 (ak #1 aB))))
    (aZ (bZ 5 (dA vC (ak &3 (ak &4 aB))))
    (aZ (bZ 6 &3)
    (aZ (V1 7 6 " " " " "+-*<=")
    (aZ (Hy (λρ=>((jh (λρ=>((ak &3 (ak &5 (ak (d2 aP (d2 aP #"  " &5) #" ") (ak &6 aB)))) ρ).bind jM)) ρ).bind jH) (gV 8) (DP a rC vq lX vC oN lG vA vz))
    (aZ (c7 (qm (b1 tB (d2 nZ (d2 aP (gM "str" iR &3 (ak #"[" aB)) (gM "str" iR &3 (ak #"(" aB))) #15)) (ji (b1 tT (dA lG (ak (dA oN (ak (d2 aP (d2 aP #"[" &5) #"]") aB)) (ak &2 aB)))))) (bU (dC (.bl false))) dj)
    (aZ (Hy (λρ=>((dA vA (ak &3 aB)) ρ).bind jH) (gV 9) (DQ a rC vq lX vC oN lG vA vz))
    (bU (dC (.bl true))))))))))))))
T! aml{a:Ad}(T:Tx K mg a)(F:cF K "law" "law" yJ f fd)
    (RB:H! 169 "_law_cell_at" ["_law_script","_law_k"] (bu 2 K rC))
    (ajO:H! 169 "_law_condition" ["_law_head","_law_cells","_law_word"] (bu 3 K vq))
    (Ge:H! 169 "show_condition" ["condition"] (bu 1 K lX))
    (ajX:H! 169 "_law_strewn" ["_law_text","_law_cell"] (bu 2 K vC))
    (Lb:H! 169 "read_condition" ["text"] (bu 1 K oN))
    (Az:H! 169 "_law_alike" ["_law_found","_law_due"] (bu 2 K lG))
    (ajV:H! 169 "_law_pairs" ["_law_text"] (bu 1 K vA))
    (ajT:H! 169 "_law_needed" ["_law_text","_law_pair","_law_due"] (bu 3 K vz)):
    F! 170 f fd ["_law_script"] (bu 1 K λds=>aL (Rh a rC vq lX vC oN lG vA vz (aM 10 ds))):=
 fK F sW λcdv A outer s H E hr=>(bC (cV 1 sW.nd rfl l! (cG ajO hr rfl aR rfl (aA (cG RB hr rfl aR rfl (aA (au 0) (aA aD aF))) (aA (zW Cq (au 0) (vV aD) JP) (aA (bV bR (DN.de (sy (aA aK (aA aK aF)))) (aX iz (cG RB hr rfl aR rfl (aA (au 0) (aA aD aF))) aD)) aF)))))
  (bC (cV 2 sW.nd rfl l! (bV bR (au 1) aD))
  (bC (cV 3 sW.nd rfl l! (cG Ge hr rfl aR rfl (aA (au 2) aF)))
  (bC (dX (DW.dt (qx (pH (mj (dJ (rQ T.pK) rfl T.qp rP (aA (au 3) (aA (rZ rfl T.rK ud) aF))))) (qx (bY qM (pG PySem.F.plainAttrs_str PySem.F.slot_str_count PySem.F.type_str_count Bl (au 3) (aA aK aF)) (pG PySem.F.plainAttrs_str PySem.F.slot_str_count PySem.F.type_str_count Bl (au 3) (aA aK aF))) (vX (bY qM (pG PySem.F.plainAttrs_str PySem.F.slot_str_count PySem.F.type_str_count Bl (au 3) (aA aK aF)) (pG PySem.F.plainAttrs_str PySem.F.slot_str_count PySem.F.type_str_count Bl (au 3) (aA aK aF))))))) (bH (cH vU)) eF)
  (bC (cV 4 sW.nd rfl l! (cG RB hr rfl aR rfl (aA (au 0) (aA aD aF))))
  (bC (cV 5 sW.nd rfl l! (cG ajX hr rfl aR rfl (aA (au 3) (aA (au 4) aF))))
  (bC (cV 6 sW.nd rfl l! (au 3))
  (bC (aiV 7 6 rfl sW.nd rfl rfl rfl rfl d? rfl rfl d? k? k? rfl rfl)
  (bC (QV pP rfl (ue (DN.de (sy (aA (au 3) (aA (au 5) (aA (aX cu (aX cu aK (au 5)) aK) (aA (au 6) aF))))))) (sr 8 sW.nd rfl l!) (bH (dX (pH (mj (cG Az hr rfl aR rfl (aA (cG Lb hr rfl aR rfl (aA (au 8) aF)) (aA (au 2) aF))))) (bH (cH vU)) eF)))
  (bC (dX (DW.dt (Ei (bY wB (aX cu (pG PySem.F.plainAttrs_str PySem.F.slot_str_count PySem.F.type_str_count Bl (au 3) (aA aK aF)) (pG PySem.F.plainAttrs_str PySem.F.slot_str_count PySem.F.type_str_count Bl (au 3) (aA aK aF))) aD) (Ej (pH (mj (cG Az hr rfl aR rfl (aA (cG Lb hr rfl aR rfl (aA (aX cu (aX cu aK (au 5)) aK) aF)) (aA (au 2) aF)))))))) (bH (cH vU)) eF)
  (bC (QV pP rfl (ue (cG ajV hr rfl aR rfl (aA (au 3) aF))) (sr 9 sW.nd rfl l!) (bH (dX (pH (mj (cG ajT hr rfl aR rfl (aA (au 3) (aA (au 9) (aA (au 2) aF)))))) (bH (cH vU)) eF)))
  (bH (cH vU)))))))))))))
end
end mQ
namespace FM
D! g(a b:Int):Int:=(Int.gcd a b:Int)
T! abp{a:Int}(ha:0<=a):g a 0=a:=by
 u! g;rw[Int.gcd_zero_right];om
T! abo{a b:Int}(ha:0<=a)(hb:0<b):g b (a%b)=g a b:=by
 u! g
 congr 1
 o!⟨m,rfl⟩:=Int.eq_ofNat_of_zero_le ha;o!⟨n,rfl⟩:=Int.eq_ofNat_of_zero_le (Int.le_of_lt hb);show Nat.gcd n ((m:Int)%(n:Int)).natAbs=Nat.gcd m n;rw[show((m:Int)%(n:Int)).natAbs=m%n from by om];rw[Nat.gcd_comm m n,Nat.gcd_rec n m,Nat.gcd_comm]
T! ajp(a b:Int):g (if a<0 then -a else a) (if b<0 then -b else b)=g a b:=by
 u! g
 congr 1
 u! Int.gcd
 congr 1
 ·split<;>om
 ·split<;>om
T! Ri{a b:Int}(hb:b≠0):0<g a b:=by
 u! g;h! h:=Int.gcd_pos_of_ne_zero_right a hb;om
T! abm(a b:Int):g a b∣a:=Int.gcd_dvd_left ..
T! abn(a b:Int):g a b∣b:=Int.gcd_dvd_right ..
D! dv(t b:Int):Int:=if b<0 then -(g t b)else g t b
D! top(t b:Int):Int:=t.fdiv (dv t b)
D! bot(t b:Int):Int:=b.fdiv (dv t b)
T! xM{t b:Int}(hb:b≠0):dv t b≠0:=by
 h!:=Ri (a:=t) hb;u! dv;split<;>om
T! abb{a d q:Int}(hd:d≠0)(h:a=d*q):a.fdiv d=q:=by
 subst h;rw[Int.mul_comm];~Int.mul_fdiv_cancel q hd
T! split{t b:Int}(hb:b≠0):t=dv t b*top t b/\b=dv t b*bot t b:=by
 h! hd:=xM (t:=t) hb;h! h1:dv t b∣t:=by
  u! dv;split;·~Int.neg_dvd.mpr (abm t b)
  ·~abm t b
 h! h2:dv t b∣b:=by
  u! dv;split;·~Int.neg_dvd.mpr (abn t b)
  ·~abn t b
 o!⟨p,hp⟩:=h1;o!⟨q,hq⟩:=h2;constructor
 ·show t=dv t b*t.fdiv (dv t b)
  rw[abb hd hp];~hp
 ·show b=dv t b*b.fdiv (dv t b)
  rw[abb hd hq];~hq
structure rE(p q:Int):Prop where
 pos:0<q
 one:Int.gcd p q=1
T! Sy{t b:Int}(hb:b≠0):rE (top t b) (bot t b):=by
 o!⟨h1,h2⟩:=split (t:=t) hb;h! hd:=xM (t:=t) hb;h! hg:=Ri (a:=t) hb;h! hab:(dv t b).natAbs=Int.gcd t b:=by
  u! dv g;split<;>om
 r!\(?_,?_)
 ·rcases Int.lt_trichotomy b 0 with h|h|h
  ·h! e:dv t b= -(g t b):=by u! dv;rw[if_pos h]
   rw[e]at h2;r! Int.lt_of_not_ge λhn=>?_;h!:0<= -(g t b)*bot t b:=by
    h!:=Int.mul_nonneg_of_nonpos_of_nonpos (show -(g t b)<=0 by om) hn;~this
   om
  ·~absurd h hb
  ·h! e:dv t b=g t b:=by u! dv;rw[if_neg o?]
   rw[e]at h2;r! Int.lt_of_not_ge λhn=>?_;h!:g t b*bot t b<=0:=Int.mul_nonpos_of_nonneg_of_nonpos (Int.le_of_lt hg) hn;om
 ·h! e:Int.gcd (dv t b*top t b) (dv t b*bot t b)=(dv t b).natAbs*Int.gcd (top t b) (bot t b):=Int.gcd_mul_left ..
  rw[<-h1,<-h2,hab]at e;h! hz:0<Int.gcd t b:=by u! g at hg;om
  ~(Nat.eq_of_mul_eq_mul_left hz (by rw[Nat.mul_one];~e)).symm
T! aiz{t b:Int}(hb:b≠0):top t b*b=t*bot t b:=by
 o!⟨h1,h2⟩:=split (t:=t) hb;h! e1:top t b*b=top t b*(dv t b*bot t b):=by rw[<-h2]
 h! e2:t*bot t b=(dv t b*top t b)*bot t b:=by rw[<-h1]
 rw[e1,e2];rw[<-Int.mul_assoc,Int.mul_comm (top t b)]
T! cop{a b c:Int}(h:Int.gcd a b=1)(d:a∣b*c):a∣c:=by
 h! h':Nat.Coprime a.natAbs b.natAbs:=h;h! d':a.natAbs∣b.natAbs*c.natAbs:=by
  rw[<-Int.natAbs_mul];~Int.natAbs_dvd_natAbs.mpr d
 ~Int.natAbs_dvd_natAbs.mp (h'.dvd_of_dvd_mul_left d')
T! akP{p q p' q':Int}(a:rE p q)(b:rE p' q')(h:p*q'=p'*q):p=p'/\q=q':=by
 o!⟨hq,g1⟩:=a;o!⟨yf,g2⟩:=b;h! d1:q∣q':=by
  h!:q∣p*q':=by rw[h];~Int.dvd_mul_left ..
  ~cop (by rw[Int.gcd_comm];~g1) this
 h! d2:q'∣q:=by
  h!:q'∣p'*q:=by rw[<-h];~Int.dvd_mul_left ..
  ~cop (by rw[Int.gcd_comm];~g2) this
 h! e:q=q':=Int.dvd_antisymm (Int.le_of_lt hq) (Int.le_of_lt yf) d1 d2;subst e;~\(Int.eq_of_mul_eq_mul_right o? h,rfl)
T! scaled{p q k:Int}(L:rE p q)(hk:k≠0):top (p*k) (q*k)=p/\bot (p*k) (q*k)=q:=by
 h! hq:q≠0:=by h!:=L.pos;om
 h! hb:q*k≠0:=Int.mul_ne_zero hq hk;r! akP (Sy hb) L ?_;h! c:=aiz (t:=p*k) hb
 r! Int.eq_of_mul_eq_mul_right hk ?_;rw[Int.mul_assoc,c,Int.mul_assoc,Int.mul_assoc,Int.mul_comm k]
T! turned{p q k:Int}(L:rE p q)(hk:k≠0):top (0 - p*k) (0 - q*k)=p/\bot (0 - p*k) (0 - q*k)=q:=by
 h! e1:0 - p*k=p*(-k):=by rw[Int.mul_neg];om
 h! e2:0 - q*k=q*(-k):=by rw[Int.mul_neg];om
 rw[e1,e2];~scaled L o?
T! aa3{t b:Int}(hb:0<b):dv t b=g t b:=by u! dv;rw[if_neg o?]
T! ai1(t b:Int):(dv t b).natAbs=Int.gcd t b:=by u! dv g;split<;>om
T! ai2{t b:Int}(hb:b≠0):(dv t b).natAbs<=b.natAbs:=by
 rw[ai1];~Nat.le_of_dvd o? (Nat.gcd_dvd_right ..)
end FM
namespace T2
open PySem PySem.NumText TM
D! dm(t:Int):List Nat:=if t<0 then 45::num t.natAbs else num t.natAbs
D! cB(t b:Int):List Nat:=if b=1 then dm t else dm t++47::num b.natAbs
T! JD(t:Int):az (Str.ofString (toString t))=dm t:=by
 cases t with
 |ofNat n=>
  u! dm;rw[if_neg (by simp)];~Qs n
 |negSucc n=>
  u! dm;rw[if_pos (Int.negSucc_lt_zero n)];h! e:az (Str.ofString (toString (Int.negSucc n)))=45::az (Str.ofString (toString (((n+1:Nat)):Int))):=by
   u! az;rw[PySem.Str.ofString_eq_toList,PySem.Str.ofString_eq_toList];show("-"++Nat.repr (n+1)).toList.map Char.toNat=45::((Nat.repr (n+1)).toList.map Char.toNat);rw[String.toList_append,List.map_append];rfl
  rw[e,Qs];rfl
D! bF(c:Nat):List Nat->List (List Nat)
 |[]=>[[]]
 |x::r=>if x=c then[]::bF c r else match bF c r with
  |p::ps=>(x::p)::ps
  |[]=>[[x]]
T! qQ{c:Nat}{r:List Nat}:bF c (c::r)=[]::bF c r:=by
 show(if c=c then[]::bF c r else _)=_;rw[if_pos rfl]
T! uP{c x:Nat}{r p:List Nat}{ps:List (List Nat)}(h:x≠c)(e:bF c r=p::ps):bF c (x::r)=(x::p)::ps:=by
 show(if x=c then[]::bF c r else match bF c r with|p::ps=>(x::p)::ps|[]=>[[x]])=_;rw[if_neg h,e]
T! yO{c:Nat}:∀{l:List Nat},c∉l->bF c l=[l]
 |[],_=>rfl
 |x::r,h=>uP (λz=>h (by rw[z];~List.mem_cons_self ..)) (yO λz=>h (List.mem_cons_of_mem _ z))
T! Nu{c:Nat}{r:List Nat}:∀{l:List Nat},c∉l->bF c (l++c::r)=l::bF c r
 |[],_=>qQ
 |x::l,h=>uP (λz=>h (by rw[z];~List.mem_cons_self ..)) (Nu λz=>h (List.mem_cons_of_mem _ z))
D! Lq(c:Nat):List (List Nat)->List Nat
 |[]=>[]
 |[p]=>p
 |p::q::r=>p++c::Lq c (q::r)
T! afq{c:Nat}:∀{ps:List (List Nat)},ps≠[]->(∀p∈ps,c∉p)->bF c (Lq c ps)=ps
 |[],h,_=>absurd rfl h
 |[p],_,h=>yO (h p (by simp))
 |p::q::r,_,h=>by
  show bF c (p++c::Lq c (q::r))=_;rw[Nu (h p (by simp)),afq (by simp) λx hx=>h x (List.mem_cons_of_mem _ hx)]
T! zO(c:Nat):∀l:List Str,az (Str.join \(#[c]) l)=Lq c (l.map az)
 |[]=>rfl
 |[p]=>rfl
 |p::q::r=>by
  show az (p++\(#[c])++Str.join \(#[c]) (q::r))=_;rw[gD,gD,zO c (q::r)];show az p++[c]++_=az p++c::_;simp
T! W9(x:Str)(c:Nat):(Txt.split x \(#[c])).map az=bF c (az x):=by
 h! h1:=StrLaws.join_split x \(#[c]);h! h2:=StrLaws.split_free x c;h! h3:Txt.split x \(#[c])≠[]:=λz=>by
  h! h4:=congrArg az h1;rw[z]at h4;u! Txt.split at z;split at z;·c! z
  ·split at z
   ·c! z
   ·rw[StrLaws.partsBetween_eq]at z
    o!⟨p,r,e⟩:=StrLaws.partsFrom_ne x (Str.length \(#[c])) 0 (Builtin.Str.occurrences x \(#[c]) 0 x.length (x.length+1));rw[e]at z;c! z
 h! h5:=congrArg az h1;rw[zO]at h5;rw[<-h5];r!(afq (by simpa using h3) λp hp=>?_).symm;o!⟨q,hq,rfl⟩:=List.mem_map.mp hp;~h2 q hq
D! dg(c:Nat):Bool:=decide (48<=c)&&decide (c<=57)
D! sG(cs:List Nat):Bool:=decide (cs≠[])&&cs.all dg
D! iy(cs:List Nat)(k:Nat):Bool:=decide (cs.length<=k)&&sG cs&&(decide (cs=[48])||!decide (cs.head?=some 48))
T! Q8{cs:List Nat}(h:sG cs=true):AllDigits cs/\cs≠[]:=by
 u! sG at h;S![Bool.and_eq_true,decide_eq_true_eq]at h;r!\(λc hc=>?_,h.1);h!:=List.all_eq_true.mp h.2 c hc;u! dg at this;simpa using this
T! ajj{cs:List Nat}(h:AllDigits cs)(h1:cs≠[]):sG cs=true:=by
 u! sG;S![Bool.and_eq_true,decide_eq_true_eq];r!\(h1,List.all_eq_true.mpr λc hc=>?_);h!:=h c hc;u! dg;simpa using this
T! Ti{cs:List Nat}{k:Nat}(h:iy cs k=true):cs.length<=k/\sG cs=true:=by
 u! iy at h;S![Bool.and_eq_true,decide_eq_true_eq]at h;~h.1
T! acN{m k:Nat}(h:(num m).length<=k):iy (num m) k=true:=by
 u! iy;o!⟨h1,h2,h3⟩:=al6 m;S![Bool.and_eq_true,decide_eq_true_eq];r!\(\(h,ajj h1 h2),?_);rcases h3 with e|⟨c,r,e,hc⟩;·rw[e];rfl
 ·rw[e];simp[hc]
T! acK{m c:Nat}(h:c<48\/57<c):c∉num m:=λz=>by h!:=GR m c z;om
D! gO(cs:List Nat):Bool:=decide (cs.head?=some 45)
D! fJ(cs:List Nat):List Nat:=if gO cs=true then cs.drop 1 else cs
D! qT(neg:Bool)(ps:List (List Nat)):Int:=if neg=true then -((digitsVal (ps.getD 0 []):Nat):Int)else((digitsVal (ps.getD 0 []):Nat):Int)
D! mU(ps:List (List Nat)):Int:=if ps.length=2 then((digitsVal (ps.getD 1 []):Nat):Int)else 1
D! wA(ps:List (List Nat)):Bool:=decide (ps.length<=2)&&ps.all (iy · 60)
D! oA(cs:List Nat):Option (Int×Int):=
 if wA (bF 47 (fJ cs))=true then
  if mU (bF 47 (fJ cs))=0 then none else
  if cB (FM.top (qT (gO cs) (bF 47 (fJ cs))) (mU (bF 47 (fJ cs)))) (FM.bot (qT (gO cs) (bF 47 (fJ cs))) (mU (bF 47 (fJ cs))))=cs then
   some (FM.top (qT (gO cs) (bF 47 (fJ cs))) (mU (bF 47 (fJ cs))),FM.bot (qT (gO cs) (bF 47 (fJ cs))) (mU (bF 47 (fJ cs))))
  else none
 else none
structure Ok(t b:Int):Prop where
 low:FM.rE t b
 ht:t.natAbs<10^60
 hb:b.natAbs<10^60
T! aco{t b:Int}(L:FM.rE t b):FM.top t b=t/\FM.bot t b=b:=by
 h!:=FM.scaled (k:=1) L d?
 rwa [Int.mul_one,Int.mul_one]at this
T! abG(m:Nat):(num m).head?≠some 45:=λz=>acK (m:=m) (c:=45) (.inl d?) (List.mem_of_mem_head? z)
T! anH{t b:Int}(O:Ok t b):gO (cB t b)=decide (t<0)/\bF 47 (fJ (cB t b))=if b=1 then[num t.natAbs]else[num t.natAbs,num b.natAbs]:=by
 h! z7:∀m,47∉num m:=λm=>acK (.inl d?);h! hd:∀r,(num t.natAbs++r).head?≠some 45:=λr z=>by
  cases e:num t.natAbs with
  |nil=>~GX _ e
  |cons c l=>
   rw[e]at z;h!:=abG t.natAbs;rw[e]at this;~this z
 by_cases ht:t<0
 ·h! hn:gO (cB t b)=true:=by
   u! gO cB dm;rw[if_pos ht];split<;>rfl
  r!\(by rw[hn];simp[ht],?_);u! fJ;rw[if_pos hn];u! cB dm;rw[if_pos ht];split;·~yO (z7 _)
  ·show bF 47 (num t.natAbs++47::num b.natAbs)=_
   rw[Nu (z7 _),yO (z7 _)]
 ·h! hn:gO (cB t b)=false:=by
   u! gO cB dm;rw[if_neg ht];split;·~decide_eq_false (abG _)
   ·~decide_eq_false (hd _)
  r!\(by rw[hn];simp[ht],?_);u! fJ;rw[if_neg (by rw[hn];simp)];u! cB dm;rw[if_neg ht];split;·~yO (z7 _)
  ·rw[Nu (z7 _),yO (z7 _)]
T! ape{t b:Int}(O:Ok t b):oA (cB t b)=some (t,b):=by
 o!⟨h1,h2⟩:=anH O;h! hb:=O.low.pos;h! lt:(num t.natAbs).length<=60:=yu (k:=59) O.ht;h! lb:(num b.natAbs).length<=60:=yu (k:=59) O.hb;h! ok:wA (bF 47 (fJ (cB t b)))=true:=by
  rw[h2];u! wA;split<;>simp[acN lt,acN lb]
 h! tp:qT (gO (cB t b)) (bF 47 (fJ (cB t b)))=t:=by
  rw[h1,h2];u! qT;h! e:digitsVal ((if b=1 then[num t.natAbs]else[num t.natAbs,num b.natAbs]).getD 0 [])=t.natAbs:=by
   split<;>~Mp _
  rw[e];by_cases ht:t<0;·rw[if_pos (by simp[ht])];om
  ·rw[if_neg (by simp[ht])];om
 h! bt:mU (bF 47 (fJ (cB t b)))=b:=by
  rw[h2];u! mU;by_cases h:b=1;·rw[if_pos h,if_neg (by simp),h]
  ·rw[if_neg h,if_pos (show[num t.natAbs,num b.natAbs].length=2 from rfl)]
   show((digitsVal (num b.natAbs):Nat):Int)=b;rw[Mp];om
 u! oA;rw[if_pos ok,tp,bt,if_neg o?,(aco O.low).1,(aco O.low).2,if_pos rfl]
T! arz(t:Int){b:Int}(hb:b≠0):(FM.top t b).natAbs<=t.natAbs/\(FM.bot t b).natAbs<=b.natAbs:=by
 o!⟨h1,h2⟩:=FM.split (t:=t) hb;h! hd:=FM.xM (t:=t) hb;h! hd1:1<=(FM.dv t b).natAbs:=by om
 h! e1:t.natAbs=(FM.dv t b).natAbs*(FM.top t b).natAbs:=by rw[<-Int.natAbs_mul,<-h1]
 h! e2:b.natAbs=(FM.dv t b).natAbs*(FM.bot t b).natAbs:=by rw[<-Int.natAbs_mul,<-h2]
 rw[e1,e2];~\(Nat.le_mul_of_pos_left _ hd1,Nat.le_mul_of_pos_left _ hd1)
T! aga{cs:List Nat}(h:iy cs 60=true):digitsVal cs<10^60:=by
 o!⟨h1,h2⟩:=Ti h;~Nat.lt_of_lt_of_le (arL _ (Q8 h2).1) (Nat.pow_le_pow_right d? h1)
T! yP(c:Nat):∀l,bF c l≠[]
 |[]=>by simp[bF]
 |x::r=>by
  show(if x=c then[]::bF c r else match bF c r with|p::ps=>(x::p)::ps|[]=>[[x]])≠[];split;·simp
  ·split<;>simp
T! ars{cs:List Nat}(h:wA (bF 47 (fJ cs))=true):(qT (gO cs) (bF 47 (fJ cs))).natAbs<10^60/\(mU (bF 47 (fJ cs))).natAbs<10^60/\0<=mU (bF 47 (fJ cs)):=by
 generalize hp:bF 47 (fJ cs)=ps at h;h! ne:ps≠[]:=hp▸yP 47 _;u! wA at h;S![Bool.and_eq_true,decide_eq_true_eq,List.all_eq_true]at h;o!⟨hl,ha⟩:=h;cases ps with
 |nil=>~absurd rfl ne
 |cons p r=>
  h! v0:=aga (ha p (by simp));r!\(?_,?_)
  ·u! qT
   show(if _ then -((digitsVal p:Nat):Int)else((digitsVal p:Nat):Int)).natAbs<_;split<;>om
  ·u! mU
   split
   ·rename_i h2
    cases r with
    |nil=>simp at h2
    |cons q r=>
     h! v1:=aga (ha q (by simp));show((digitsVal q:Nat):Int).natAbs<_/\0<=((digitsVal q:Nat):Int);om
   ·~\(d?,d?)
end T2
namespace T4
open PySem PySem.NumText TM
D! iK(t:Nat):List Nat:=num (t/1440)++32::(two (t%1440/60)++58::two (t%1440%60))
D! dg(c:Nat):Bool:=decide (48<=c)&&decide (c<=57)
T! acd{t:Nat}(h:t<=1000000000):(iK t).length<=12/\(iK t).length=(num (t/1440)).length+6:=by
 h!:(num (t/1440)).length<=5+1:=yu o?;u! iK two;simp;om
T! aiB(t:Nat):((iK t).drop 0).take ((iK t).length - 6 - 0)=num (t/1440):=by
 h!:(iK t).length=(num (t/1440)).length+6:=by u! iK two;simp
 rw[this];u! iK;simp
T! aiC(t:Nat):((iK t).drop ((iK t).length - 5)).take ((iK t).length - 3 - ((iK t).length - 5))=two (t%1440/60):=by
 h! e:(iK t).length=(num (t/1440)).length+6:=by u! iK two;simp
 rw[e,show(num (t/1440)).length+6 - 5=(num (t/1440)).length+1 by om,show(num (t/1440)).length+6 - 3 - ((num (t/1440)).length+1)=2 by om];u! iK two;h! z:List.drop ((num (t/1440)).length+1) (num (t/1440))=[]:=List.drop_of_length_le o?;simp[List.drop_append,z]
T! aiE(t:Nat):((iK t).drop ((iK t).length - 2)).take ((iK t).length - ((iK t).length - 2))=two (t%1440%60):=by
 h! e:(iK t).length=(num (t/1440)).length+6:=by u! iK two;simp
 rw[e,show(num (t/1440)).length+6 - 2=(num (t/1440)).length+4 by om,show(num (t/1440)).length+6 - ((num (t/1440)).length+4)=2 by om];u! iK two;h! z:List.drop ((num (t/1440)).length+4) (num (t/1440))=[]:=List.drop_of_length_le o?;simp[List.drop_append,z]
end T4
namespace TR
open PySem PySem.NumText TM T2
D! Gu:List (List Nat):=[[109,97,114,107],[102,105,108,108],[104,101,114,101],[98,97,99,107],[111,110],[97,116],[97,103,111],[117,110,116,105,108],[97,98,115],[97,110,100],[111,114],[110,111,116]]
D! sJ(c:Nat):Bool:=decide (97<=c)&&decide (c<=122)
D! kh(m:List Nat):Bool:=decide (m≠[])&&decide (m.length<=8)&&m.all sJ&&!decide (m∈Gu)
structure Ok(m:List Nat)(t u:Nat)(n:Int):Prop where
 m:kh m=true
 t:t<=1000000000
 u:u<=1000000000
 n:n.natAbs<10^60
T! agJ{m:List Nat}(h:kh m=true):m≠[]/\m.length<=8/\(∀c∈m,97<=c/\c<=122)/\m∉Gu:=by
 u! kh at h;S![Bool.and_eq_true,decide_eq_true_eq,Bool.not_eq_true',decide_eq_false_iff_not,List.all_eq_true]at h;r!\(h.1.1.1,h.1.1.2,λc hc=>?_,h.2);h!:=h.1.2 c hc;u! sJ at this;simpa using this
end TR
set_option exponentiation.threshold 500
local macro_rules|`(tactic|walk_at "den")=>`(tactic|try simp(disch:=first|assumption|decide|exact Nat.le_of_ble_eq_true rfl)only[P2.aV,P2.M3,P2.adG,P2.uJ,P2.aer,P2.aeq,P2.Vq,P2.Nh,P2.aee,P2.aed,P2.Hq,P2.aet,P2.aeu,P2.aev,P2.aes,P2.aew,P2.BP,P2.adL,P2.adM,P2.ad7,P2.ad8,P2.Vp,P2.aec,P2.aeb,P2.Ho,P2.aea,P2.yG,P2.BW,P2.iY,P2.Hj,P2.ie,P2.qN,P2.Hg,P2.Va,P2.MT,P2.Hi,P2.adH,P2.Hk,P2.M5,P2.Vb,P2.lu,P2.ju,P2.fL,P2.Hf,P2.Vc,P2.BL,P2.M4,P2.Hn,P2.aep,P2.adO,P2.wH,P2.Vt,P2.ael,P2.aen,P2.aem,P2.aeo,P2.MN,P2.aek,P2.Hl,P2.BV,P2.Ng,P2.ad3,P2.Hm,P2.adP,P2.ad6,P2.adJ,P2.M6,P2.adI,P2.ad5,P2.Vo,P2.Vh,P2.Vi,P2.M8,P2.ad2,P2.aeh,P2.aei,P2.ad9,P2.Nf,P2.M9,P2.Vm,P2.U8,P2.ad4,P2.adQ,P2.U9,P2.adD,P2.Vr,P2.aeD,P2.Vg,P2.adN,P2.adC,P2.adB,P2.BR,P2.MP,P2.adF,P2.adE,P2.Ve,P2.Vl,P2.Vj,P2.adS,P2.adR,P2.adU,P2.adV,P2.adT,P2.aef,P2.aeg,P2.adW,P2.adZ,P2.adX,P2.ad0,P2.adY,P2.ad1,P2.ou,P2.qO,P2.uK,P2.BZ,P2.Hr,P2.Hs,P2.Vu,P2.aeB,P2.Vv,P2.Vw,P2.aex,P2.aey,P2.aez,P2.aeA,P2.aM,List.map_cons,List.map_nil,List.length_cons,List.length_nil,Nat.sub_self,Nat.reduceAdd,Nat.reduceSub,List.replicate_zero,List.replicate_succ,List.append_nil,List.nil_append,List.cons_append,List.set_cons_zero,List.set_cons_succ,if_true,if_false,Nat.reduceLT,Nat.zero_lt_succ,Bool.not_true,Bool.not_false,Bool.false_eq_true,reduceIte,decide_true,decide_false,Int.reduceLT,Int.reduceEq,Int.reduceNeg,Int.reducePow,Int.reduceSub,Int.reduceAdd,Int.reduceMul,List.length_set])
namespace WP
open PySem L2 P2 TM T2 PySem.NumText
T! aiN(c:Nat):Txt.contains (Str.ofString "0123456789") \(#[c])=dg c:=by
 rw[Ax];h! e:az (Str.ofString "0123456789")=[48,49,50,51,52,53,54,55,56,57]:=by decide
 rw[e];~TM.S5 k? k? (λc h=>by rw[Bool.eq_false_iff];u! dg;S![ne_eq,Bool.and_eq_true,decide_eq_true_eq];om) c
T! JS(z:Str):(z=Str.ofString "")↔az z=[]:=by
 constructor;·rintro rfl;decide
 ·intro h;~ext (by rw[h];decide)
variable{a:Ad}
T! ale(z:Str)(hz:z.length<=1000000):aL (Ke a (aM 1 [.str z]))=.ok (.bl (sG (az z))):=by
 h! hc:jA (gV 0) (λ_=>.ok true) (d2 mX &0 #"0123456789") (j6 1 [] [.sh (.str z)]) (signs z)=some ((az z).map λc=>.bl (dg c)):=by
  h!:=zP (a:=gV 0) (c:=λ_=>.ok true) (e:=d2 mX &0 #"0123456789") (kE:=j6 1 [] [.sh (.str z)]) (λd=>[.sh d]) (λd=>match d with|.str y=>.bl (Txt.contains "0123456789" y)|_=>.non) (signs z) λd hd=>by
   o!⟨c,_,rfl⟩:=List.mem_map.mp hd;~\(rfl,rfl,rfl)
  rw[this];u! signs;rw[List.map_map]
  congr 1
  r! List.map_congr_left λc _=>?_;show D.bl (Txt.contains "0123456789" \(#[c]))=_;rw[aiN]
 h! hl:(signs z).length<=sizeLine:=by u! signs;rw[List.length_map];~size_of (show(az z).length<=_ by rw[<-jQ];~hz)
 u! Ke;walk_at "den"
 S![hl,if_true,hc,Vp,aV,U9,Jx];u! sG;by_cases h0:z=Str.ofString ""
 ·h! h1:=(JS z).mp h0
  rw[h1];simp[h0,uJ,BP]
 ·h! h1:az z≠[]:=λw=>h0 ((JS z).mpr w)
  simp[h0,h1,uJ,BP,List.all_map];try rfl
T! ak3{F:R!}(hF:∀z:Str,z.length<=1000000->F [.str z]=.ok (.bl (sG (az z))))(z:Str)(k:Nat)(hz:z.length<=1000000):aL (Ka a F (aM 2 [.str z,.int k]))=.ok (.bl (iy (az z) k)):=by
 u! Ka;h! hs:=size_of hz;walk_at "den"
 S![hs,hF z hz,if_true,afs,aV,Hm,wH,Vt];h! e0:decide (z=Str.ofString "0")=decide (az z=[48]):=by
  rw[Bool.eq_iff_iff];S![decide_eq_true_eq];~\(λh=>by rw[h];decide,λh=>ext (by rw[h];decide))
 u! iy;h! el:z.length=(az z).length:=jQ z;by_cases h1:(k:Int)<z.length
 ·h! h2:¬(az z).length<=k:=by om
  simp[h1,h2,uJ,Nh,BP]
 ·h! h2:(az z).length<=k:=by om
  cases h3:sG (az z)<;>by_cases h4:az z=[48]<;>simp[h1,h2,h3,h4,e0,uJ,Nh,Vq,BP,Ho,Hk,ie,ou,iY,aV,M6,wH,M5,Vc,Vg,fL,ju,Vr,afs];rw[h4]at h2;~h2
D! aq(cs:List Nat):Str:=\(cs.toArray)
T! lZ(cs:List Nat):az (aq cs)=cs:=rfl
T! lO(z:Str):aq (az z)=z:=ext (lZ _)
T! qK(cs:List Nat):(aq cs).length=cs.length:=by rw[jQ,lZ]
T! alu(i:Int):aL (Kc a (aM 1 [.int i]))=.ok (.bl true):=by
 u! Kc;iterate 3 (walk_at "den")
T! agr:∀(n:Nat) (x y:Int) (s2:Sl),0<=x->0<=y->y<n->
    ∃s,qX (b1 tB (d2 fY &1 #0)) (PN a) n [.sh (.int x),.sh (.int y),s2]=.nx [.sh (.int (FM.g x y)),.sh (.int 0),s]
 |0,x,y,s2,hx,hy,h=>by om
 |n+1,x,y,s2,hx,hy,h=>by
  rw[aeC];by_cases z:y=0
  ·subst z
   r!\(s2,?_);walk_at "den"
   rw[FM.abp hx]
  ·h! hp:0<y:=by om
   h! hm:=Int.emod_lt_of_pos x hp;o!⟨s,e⟩:=agr n y (x%y) (.sh (.int (x%y))) hy (Int.emod_nonneg x z) o?;r!\(s,?_);u! PN;iterate 4 (walk_at "den";try S![z,BV hp])
   rw[<-FM.abo hx hp];~e
T! ak1(x y:Int)(hx:0<=x)(hy:0<=y)(h:y.natAbs<10^400):aL (J3 a (aM 3 [.int x,.int y]))=.ok (.int (FM.g x y)):=by
 o!⟨s,e⟩:=agr (a:=a) 10000000000000000000000000000000000000000000000000000000000000000000000000000000000000000000000000000000000000000000000000000000000000000000000000000000000000000000000000000000000000000000000000000000000000000000000000000000000000000000000000000000000000000000000000000000000000000000000000000000000000000000000000000000000000000000000000000000000000000000000000000000000000000000000000000000000000000 x y .no hx hy o?;u! J3;walk_at "den"
 rw[e];walk_at "den"
T! JQ{t b:Int}(hb:b≠0)(h:b.natAbs<10^400):(FM.dv t b).natAbs<10^400:=by
 h!:=FM.ai2 (t:=t) (b:=b) hb;om
A! fr(t b:Int):D:=.tup [.int (FM.top t b),.int (FM.bot t b)]
T! akZ{Fw Fg:R!}(hw:∀i:Int,Fw [.int i]=.ok (.bl true))(hg:∀x y:Int,0<=x->0<=y->y.natAbs<10^400->Fg [.int x,.int y]=.ok (.int (FM.g x y)))(t b:Int)(hb:b≠0)(h:b.natAbs<10^400):
    aL (J4 a Fw Fg (aM 3 [.int t,.int b]))=.ok (fr t b):=by
 h! g1:=hg (if t<0 then -t else t) (if b<0 then -b else b) (by split<;>om) (by split<;>om) (by split<;>om);rw[FM.ajp t b]at g1;h! d1:=M7 (i:=t) (FM.xM (t:=t) (b:=b) hb) (JQ hb h);h! d2:=M7 (i:=b) (FM.xM (t:=t) (b:=b) hb) (JQ hb h);u! J4;by_cases b1:b<0
 ·h! e:FM.dv t b= -(FM.g t b):=by u! FM.dv;rw[if_pos b1]
  rw[if_pos b1]at g1;rw[e]at d1 d2;iterate 8 (walk_at "den";try S![hw,hb,b1,g1,d1,d2,decide_false,decide_true])
  u! fr FM.top FM.bot;rw[e]
 ·h! e:FM.dv t b=FM.g t b:=by u! FM.dv;rw[if_neg b1]
  rw[if_neg b1]at g1;rw[e]at d1 d2;iterate 8 (walk_at "den";try S![hw,hb,b1,g1,d1,d2,decide_false,decide_true])
  u! fr FM.top FM.bot;rw[e]
T! akK{t:Int}(h:t.natAbs<10^400):(dm t).length<=402:=by
 h!:=yu (k:=399) (m:=t.natAbs) h;u! dm;split;·rw[List.length_cons];om
 ·om
T! len_str{t:Int}(h:t.natAbs<10^400):(Str.ofString (toString t)).length<=402:=by rw[jQ,JD];~akK h
T! SQ(t b:Int)(hb:0<b)(h1:t.natAbs<10^400)(h2:b.natAbs<10^400):aL (Et a (aM 3 [.tup [.int t,.int b]]))=.ok (.str (aq (cB t b))):=by
 h! i0:L2.bN [D.int t,D.int b] 0=some (.int t):=rfl;h! i1:L2.bN [D.int t,D.int b] 1=some (.int b):=rfl;h! s1:=Vs h1;h! f1:=Vd h1;h! f2:=Vd h2;h! l1:=len_str h1;h! l2:=len_str h2;h! e1:=JD t;h! e2:=JD b;generalize hx:Str.ofString (toString t)=x at*;generalize hy:Str.ofString (toString b)=y at*;h! c0:az Str.empty=[]:=rfl;h! c1:az (Str.ofString "/")=[47]:=by decide
 h! z1:(Str.empty++x).length<=sizeLine:=size_of (by rw[jQ,gD,c0,List.nil_append,<-jQ];om);h! z2:(Str.empty++x++Str.ofString "/").length<=sizeLine:=size_of (by rw[jQ,gD,gD,c0,c1,List.nil_append,List.length_append,<-jQ,List.length_singleton];om);h! z3:(Str.empty++x++Str.ofString "/"++y).length<=sizeLine:=size_of (by rw[jQ,gD,gD,gD,c0,c1,List.nil_append,List.length_append,List.length_append,<-jQ,<-jQ,List.length_singleton];om);u! Et;by_cases K4:b=1
 ·h! ez:x=aq (cB t b):=ext (by rw[lZ,e1];u! cB;rw[if_pos K4])
  subst K4;rw[<-ez];iterate 6 (walk_at "den";try S![i0,i1,s1,decide_true])
 ·h! ez:Str.empty++x++Str.ofString "/"++y=aq (cB t b):=ext (by
   rw[lZ];S![gD,c0,c1,e1,e2];u! cB;rw[if_neg K4];h!:dm b=num b.natAbs:=by u! dm;rw[if_neg o?]
   rw[this];simp)
  iterate 8 (walk_at "den";try S![i0,i1,K4,f1,f2,if_pos z1,if_pos z2,if_pos z3,decide_false])
  rw[<-ez]
end WP
namespace WP
open PySem L2 P2 TM T2 PySem.NumText
variable{a:Ad}
T! aqu(x:Str):Txt.startswith x (Str.ofString "-")=gO (az x):=by
 o!⟨⟨l⟩⟩:=x;u! Txt.startswith Builtin.Str.subAt gO;cases l with
 |nil=>rfl
 |cons c r=>
  h! h1:(Str.ofString "-").length=1:=by decide
  h! h2:(Str.ofString "-").cps=#[45]:=by decide
  rw[h1,h2];show(decide (0+1<=(c::r).length)&&((c::r).toArray.extract 0 (0+1)==#[45]))=_;h!:((c::r).toArray.extract 0 (0+1))=#[c]:=by simp
  rw[this,Bool.eq_iff_iff];simp[az]
T! ain(z:Str):az (Txt.slice z (some 1) none)=(az z).drop 1:=by
 rw[JF];h! e1:sx (az z).length 0 (some 1)=min 1 (az z).length:=rfl;h! e2:sx (az z).length (az z).length none=(az z).length:=rfl;rw[e1,e2];by_cases h:1<=(az z).length
 ·rw[Nat.min_eq_left h]
  ~List.take_of_length_le (by rw[List.length_drop];om)
 ·h!:az z=[]:=List.length_eq_zero_iff.mp o?
  rw[this];rfl
D! NQ(a:Ad)(oM tM nC:R!):Ev->RT:=
    (aZ (c7 (kY (b1 tB (d2 eG (dA cj (ak &2 aB)) #2)) (ji (b1 tT (dA tX (ak (jh (kZ (λρ=>(&2 ρ).bind jH) 1 [] (gV 0) (λ_=>.ok true) (dA oM (ak &0 (ak #60 aB))))) aB))))) U! dj)
    (aZ (bZ 3 (nJ (b1 tT &1) (d1 Bo (dA intD (ak (d2 aO &2 #0) aB))) (dA intD (ak (d2 aO &2 #0) aB))))
    (aZ (bZ 4 (nJ (b1 tB (d2 cX (dA cj (ak &2 aB)) #2)) (dA intD (ak (d2 aO &2 #1) aB)) #1))
    (aZ (c7 (b1 tB (d2 cX &4 #0)) U! dj)
    (aZ (bZ 5 (dA tM (ak &3 (ak &4 aB))))
    (aZ (c7 (b1 tB (d2 fY (dA nC (ak &5 aB)) &0)) U! dj)
    (bU &5)))))))
T! apf{oM tM nC:R!}:KN a oM tM nC=aZ (bZ 1 (gM "str" Cr &0 (ak #"-" aB)))
    (aZ (bZ 2 (nJ (b1 tT &1) (gM "str" uN (iG ig &0 (λρ=>(#1 ρ).bind pI) (λ_=>.ok none)) (ak #"/" aB)) (gM "str" uN &0 (ak #"/" aB))))
    (NQ a oM tM nC)):=rfl
D! outF(a:Ad)(o:Option (Int×Int)):R D:=match o with
 |some (t,b)=>.ok (.tup [.int t,.int b])
 |none=>.ex a.NoText ["row"] [.int 1]
T! abS{p:Str}(h:iy (az p) 60=true):PySem.intText? p=some ((digitsVal (az p):Nat):Int)/\p.length<=640:=by
 o!⟨h1,h2⟩:=Ti h;o!⟨h3,h4⟩:=Q8 h2;h! hl:p.length<=640:=by rw[jQ];om
 ~\(intText_of h3 h4 hl,hl)
section
variable{Fn Ff Fs:R!}(hn:∀(z:Str) (k:Nat),z.length<=1000000->Fn [.str z,.int k]=.ok (.bl (iy (az z) k)))
 (hf:∀t b:Int,b≠0->b.natAbs<10^400->Ff [.int t,.int b]=.ok (.tup [.int (FM.top t b),.int (FM.bot t b)]))
 (hs:∀t b:Int,0<b->t.natAbs<10^400->b.natAbs<10^400->Fs [.tup [.int t,.int b]]=.ok (.str (aq (cB t b))))
include hn hf hs
T! als(z:Str)(ps:List Str)(hz:z.length<=1000000)(hl:∀p∈ps,p.length<=1000000)(hlen:ps.length<=1000002)(hp:ps.map az=bF 47 (fJ (az z))):
    aL (NQ a Fn Ff Fs [.sh (.str z),.sh (.bl (gO (az z))),.sh (.lst (ps.map D.str)),.no,.no,.no])=outF a (oA (az z)):=by
 h! uq:jA (gV 0) (λ_=>.ok true) (dA Fn (ak &0 (ak #60 aB))) (j6 1 [] [.sh (.str z),.sh (.bl (gO (az z))),.sh (.lst (ps.map D.str)),.no,.no,.no]) (ps.map D.str)=some (ps.map λp=>.bl (iy (az p) 60)):=by
  h!:=zP (a:=gV 0) (c:=λ_=>.ok true) (e:=dA Fn (ak &0 (ak #60 aB))) (kE:=j6 1 [] [.sh (.str z),.sh (.bl (gO (az z))),.sh (.lst (ps.map D.str)),.no,.no,.no]) (λd=>[.sh d]) (λd=>match d with|.str y=>.bl (iy (az y) 60)|_=>.non) (ps.map D.str) λd hd=>by
   o!⟨p,hp,rfl⟩:=List.mem_map.mp hd;~\(rfl,rfl,hn p 60 (hl p hp))
  rw[this,List.map_map];rfl
 h! hsz:(ps.map D.str).length<=sizeLine:=by rw[List.length_map];~Nat.le_trans hlen d?
 h! hall:mR (ps.map λp=>D.bl (iy (az p) 60))=some (ps.map λp=>iy (az p) 60):=Jx _ ps;h! hok:wA (bF 47 (fJ (az z)))=(decide (ps.length<=2)&&(ps.map λp=>iy (az p) 60).all id):=by
  rw[<-hp];u! wA;rw[List.length_map]
  congr 1
  simp[List.all_map,Function.comp_def]
 h! Gj:(decide ((2:Int)<((ps.map D.str).length:Nat)))=!decide (ps.length<=2):=by
  rw[List.length_map,Bool.eq_iff_iff];S![decide_eq_true_eq,Bool.not_eq_true',decide_eq_false_iff_not];om
 u! NQ;cases ok:wA (bF 47 (fJ (az z)))with
 |false=>
  h! er:oA (az z)=none:=by u! oA;rw[if_neg (by rw[ok];simp)]
  rw[er];rw[ok]at hok;iterate 3 (walk_at "den";try S![Gj,if_pos hsz,uq,hall])
  by_cases h2:ps.length<=2
  ·h! ha:(ps.map λp=>iy (az p) 60).all id=false:=by simpa [h2]using hok.symm
   iterate 4 (walk_at "den";try S![h2,ha])
   rfl
  ·iterate 4 (walk_at "den";try S![h2])
   rfl
 |true=>
  rw[ok]at hok;h! h2:ps.length<=2:=by
   by_cases h:ps.length<=2;·~h
   ·simp[h]at hok
  h! ha:(ps.map λp=>iy (az p) 60).all id=true:=by simpa [h2]using hok.symm
  h! ne:ps≠[]:=λw=>by rw[w]at hp;~yP 47 _ hp.symm
  o!⟨v1,v2,v3⟩:=ars ok;h! er:∀T B,qT (gO (az z)) (bF 47 (fJ (az z)))=T->mU (bF 47 (fJ (az z)))=B->oA (az z)=if B=0 then none else if cB (FM.top T B) (FM.bot T B)=az z then some (FM.top T B,FM.bot T B)else none:=by
   intro T B e1 e2;u! oA;rw[if_pos ok,e1,e2]
  h! fin:∀(T B:Int) (ρ:Ev),qT (gO (az z)) (bF 47 (fJ (az z)))=T->mU (bF 47 (fJ (az z)))=B->∀s1 s2,
      aL ((aZ (c7 (b1 tB (d2 cX &4 #0)) U! dj)
  (aZ (bZ 5 (dA Ff (ak &3 (ak &4 aB))))
  (aZ (c7 (b1 tB (d2 fY (dA Fs (ak &5 aB)) &0)) U! dj)
  (bU &5)))) [.sh (.str z),s1,s2,.sh (.int T),.sh (.int B),.no])=outF a (oA (az z)):=by
    intro T B ρ e1 e2 s1 s2;rw[e1]at v1;rw[e2]at v2 v3;rw[er T B e1 e2];by_cases hB:B=0
    ·subst hB
     iterate 4 (walk_at "den")
     rfl
    ·h! hB0:0<B:=by om
     h! f1:=hf T B hB o?;o!⟨l1,l2⟩:=arz T hB;h! low:=FM.Sy (t:=T) hB;h! g1:=hs (FM.top T B) (FM.bot T B) low.pos o? o?;rw[if_neg hB];by_cases e:cB (FM.top T B) (FM.bot T B)=az z
     ·h! ez:aq (cB (FM.top T B) (FM.bot T B))=z:=by rw[e];~lO z
      rw[if_pos e];rw[ez]at g1;iterate 8 (walk_at "den";try S![hB,f1,g1,decide_true,decide_false])
      rfl
     ·h! ez:aq (cB (FM.top T B) (FM.bot T B))≠z:=λw=>e (by rw[<-w];rfl)
      rw[if_neg e];iterate 8 (walk_at "den";try S![hB,f1,g1,ez,decide_true,decide_false])
      rfl
  o!⟨p,r,v9⟩:=List.exists_cons_of_ne_nil ne;h! np:iy (az p) 60=true:=by
   rw[v9]at ha;S![List.map_cons,List.all_cons,Bool.and_eq_true]at ha;~ha.1
  o!⟨ip,jp⟩:=abS np;h! i0:L2.bN (ps.map D.str) 0=some (.str p):=by rw[v9];~vM (j:=0) rfl
  h! e1:qT (gO (az z)) (bF 47 (fJ (az z)))=if gO (az z)=true then -((digitsVal (az p):Nat):Int)else((digitsVal (az p):Nat):Int):=by rw[<-hp,v9];rfl
  h! n2:¬(!decide (ps.length<=2))=true:=by simp[h2]
  by_cases hq:ps.length=2
  ·obtain⟨q,hr⟩:∃q,r=[q]:=by
    cases r with
    |nil=>rw[v9]at hq;simp at hq
    |cons q l=>cases l with
     |nil=>~\(q,rfl)
     |cons _ _=>rw[v9]at hq;simp at hq
   subst hr;h! nq:iy (az q) 60=true:=by
    rw[v9]at ha;S![List.map_cons,List.all_cons,Bool.and_eq_true]at ha;~ha.2.1
   o!⟨iq,jq⟩:=abS nq;h! i1:L2.bN (ps.map D.str) 1=some (.str q):=by rw[v9];~vM (j:=1) rfl
   h! e2:mU (bF 47 (fJ (az z)))=((digitsVal (az q):Nat):Int):=by rw[<-hp,v9];rfl
   h! hq2:(((ps.map D.str).length:Nat):Int)=2:=by rw[List.length_map];om
   h! F:=fin _ _ [] e1 e2 (.sh (.bl (gO (az z)))) (.sh (.lst (ps.map D.str)));rw[<-F];cases hN:gO (az z)with
   |true=>
    rw[hN]at uq;iterate 10 (walk_at "den";try S![Gj,if_pos hsz,uq,hall,ha,ip,iq,if_pos jp,if_pos jq,i0,i1,n2,hq2])
    try rfl
   |false=>
    rw[hN]at uq;iterate 10 (walk_at "den";try S![Gj,if_pos hsz,uq,hall,ha,ip,iq,if_pos jp,if_pos jq,i0,i1,n2,hq2])
    try rfl
  ·h! e2:mU (bF 47 (fJ (az z)))=1:=by
    u! mU;rw[<-hp,List.length_map,if_neg hq]
   h! hq2:¬(((ps.map D.str).length:Nat):Int)=2:=by rw[List.length_map];om
   h! F:=fin _ _ [] e1 e2 (.sh (.bl (gO (az z)))) (.sh (.lst (ps.map D.str)));rw[<-F];cases hN:gO (az z)with
   |true=>
    rw[hN]at uq;iterate 10 (walk_at "den";try S![Gj,if_pos hsz,uq,hall,ha,ip,if_pos jp,i0,n2,hq2])
    try rfl
   |false=>
    rw[hN]at uq;iterate 10 (walk_at "den";try S![Gj,if_pos hsz,uq,hall,ha,ip,if_pos jp,i0,n2,hq2])
    try rfl
end
section
variable{Fn Ff Fs:R!}(hn:∀(z:Str) (k:Nat),z.length<=1000000->Fn [.str z,.int k]=.ok (.bl (iy (az z) k)))
 (hf:∀t b:Int,b≠0->b.natAbs<10^400->Ff [.int t,.int b]=.ok (.tup [.int (FM.top t b),.int (FM.bot t b)]))
 (hs:∀t b:Int,0<b->t.natAbs<10^400->b.natAbs<10^400->Fs [.tup [.int t,.int b]]=.ok (.str (aq (cB t b))))
include hn hf hs
T! aej{z:Str}(hz:z.length<=1000):uN (.str z) [.str "/"]=.ok (.lst ((Txt.split z \(#[47])).map D.str)):=by
 show(if((Str.ofString "/").length==0)=false/\z.length+2<=sizeLine then R.ok (D.lst ((Txt.split z (Str.ofString "/")).map D.str))else .bad)=_;rw[if_pos \(d?,size_of o?)];rfl
T! alh(z:Str)(hz:z.length<=1000):aL (KN a Fn Ff Fs (aM 6 [.str z]))=outF a (oA (az z)):=by
 h! sz:z.length<=sizeLine:=size_of o?;rw[apf]
 h! go:∀x:Str,x.length<=1000->az x=fJ (az z)->aL (NQ a Fn Ff Fs [.sh (.str z),.sh (.bl (gO (az z))),.sh (.lst ((Txt.split x \(#[47])).map D.str)),.no,.no,.no])=outF a (oA (az z)):=λx hx e=>
  als hn hf hs z _ o? (λp hp=>Nat.le_trans (PyProof.Rows.part_short hp) o?) (Nat.le_trans (PyProof.Rows.split_le x _) o?) (by rw[W9,e])
 h! st:=aqu z;cases hN:gO (az z)with
 |true=>
  h! lx:(Txt.slice z (some 1) none).length<=1000:=Nat.le_trans (Txt.slice_le z _ _) hz;h! G:=go (Txt.slice z (some 1) none) lx (by rw[ain];u! fJ;rw[if_pos hN]);h! sp:=aej hn hf hs lx;rw[hN]at st G;iterate 5 (walk_at "den";try S![st,if_pos sz,sp])
  ~G
 |false=>
  h! G:=go z hz (by u! fJ;rw[if_neg (by rw[hN];simp)]);h! sp:=aej hn hf hs hz;rw[hN]at st G;iterate 5 (walk_at "den";try S![st,if_pos sz,sp])
  ~G
end
end WP
namespace WP
open PySem L2 P2 TM T2 PySem.NumText
open T4 (iK acd aiB aiC aiE)
variable{a:Ad}
end WP
namespace WP
open PySem L2 P2 TM T2 PySem.NumText
open T4 (iK acd)
variable{a:Ad}
T! akR(c:Nat):Txt.contains (Str.ofString "abcdefghijklmnopqrstuvwxyz") \(#[c])=TR.sJ c:=by
 rw[Ax];h! e:az (Str.ofString "abcdefghijklmnopqrstuvwxyz")=[97,98,99,100,101,102,103,104,105,106,107,108,109,110,111,112,113,114,115,116,117,118,119,120,121,122]:=by decide
 rw[e];~TM.S5 k? k? (λc h=>by rw[Bool.eq_false_iff];u! TR.sJ;S![ne_eq,Bool.and_eq_true,decide_eq_true_eq];om) c
T! adz:∀ks:List Str,oh (ks.map D.str)=some (ks.map PyData.str)
 |[]=>rfl
 |k::ks=>by
  show((Hd (.str k)).bind λp=>(oh (ks.map D.str)).map (p:: ·))=_;rw[adz ks];rfl
T! Gv:∀ks:List Str,(∀k∈ks,PyData.strOk k=true)->PyData.canLayAll0 (ks.map PyData.str)=true
 |[],_=>rfl
 |k::ks,h=>by
  show(PyData.canLay0 (.str k)&&PyData.canLayAll0 (ks.map PyData.str))=true;rw[Gv ks λx hx=>h x (List.mem_cons_of_mem _ hx),Bool.and_true];~h k (List.mem_cons_self ..)
T! Dw(z:Str):∀ks:List Str,((ks.map PyData.str).any λy=>PyData.eqv y (.str z))=decide (z∈ks)
 |[]=>by simp
 |k::ks=>by
  rw[List.map_cons,List.any_cons,Dw z ks,Bool.eq_iff_iff];h! e:PyData.eqv (.str k) (.str z)=(k==z):=by simp[PyData.eqv]
  rw[e];S![Bool.or_eq_true,beq_iff_eq,decide_eq_true_eq,List.mem_cons];~\(λh=>h.imp Eq.symm id,λh=>h.imp Eq.symm id)
T! Rw{z:Str}{ks:List Str}(hz:PyData.strOk z=true)(hk:∀k∈ks,PyData.strOk k=true):lN (.str z) (ks.map D.str)=some (decide (z∈ks)):=by
 show((some (PyData.str z)).bind λp=>(oh (ks.map D.str)).bind λps=>if(PyData.canLayAll0 ps&&PyData.canLay0 p&&decide (p.depth<=63))=true then some (ps.any λy=>PyData.eqv y p)else none)=_;rw[adz,Option.bind_some,Option.bind_some,Gv ks hk,Dw,if_pos];show(true&&PyData.strOk z&&decide (PyData.depth (.str z)<=63))=true;rw[hz];rfl
D! Bd:List Str:=[Str.ofString "mark",Str.ofString "fill",Str.ofString "here",Str.ofString "back",Str.ofString "on",Str.ofString "at",Str.ofString "ago",Str.ofString "until",Str.ofString "abs",Str.ofString "and",Str.ofString "or",Str.ofString "not"]
T! akB:Bd.map az=TR.Gu:=by decide
T! ab3(z:Str):(z∈Bd)↔az z∈TR.Gu:=by
 rw[<-akB,List.mem_map];~\(λh=>\(z,h,rfl),λ\(y,h,e)=>by rw[<-ext e];~h)
T! ak4(z:Str)(hz:z.length<=1000000):aL (Kd a (aM 1 [.str z]))=.ok (.bl (TR.kh (az z))):=by
 h! hs:=size_of hz;h! hc:jA (gV 0) (λ_=>.ok true) (d2 mX &0 #"abcdefghijklmnopqrstuvwxyz") (j6 1 [] [.sh (.str z)]) (signs z)=some ((az z).map λc=>.bl (TR.sJ c)):=by
  h!:=zP (a:=gV 0) (c:=λ_=>.ok true) (e:=d2 mX &0 #"abcdefghijklmnopqrstuvwxyz") (kE:=j6 1 [] [.sh (.str z)]) (λd=>[.sh d]) (λd=>match d with|.str y=>.bl (Txt.contains "abcdefghijklmnopqrstuvwxyz" y)|_=>.non) (signs z) λd hd=>by
   o!⟨c,_,rfl⟩:=List.mem_map.mp hd;~\(rfl,rfl,rfl)
  rw[this];u! signs;rw[List.map_map]
  congr 1
  r! List.map_congr_left λc _=>?_;show D.bl (Txt.contains "abcdefghijklmnopqrstuvwxyz" \(#[c]))=_;rw[akR]
 h! hl:(signs z).length<=sizeLine:=by u! signs;rw[List.length_map];~size_of (show(az z).length<=_ by rw[<-jQ];~hz)
 h! el:=jQ z;h! hb:=Jx TR.sJ (az z);h! hid:(((az z).map TR.sJ).all id)=(az z).all TR.sJ:=by rw[List.all_map];rfl
 u! Kd TR.kh;by_cases h0:z=Str.ofString ""
 ·h! h1:=(JS z).mp h0
  iterate 5 (walk_at "den";try S![h0,h1,decide_true])
  h! e0:az (Str.ofString "")=[]:=by decide
  simp[e0]
 ·h! h1:az z≠[]:=λw=>h0 ((JS z).mpr w)
  by_cases h8:z.length<=8
  ·h! hg:¬((8:Int)<((z.length:Nat):Int)):=by om
   h! Ru:(az z).length<=8:=by om
   cases hA:(az z).all TR.sJ with
   |false=>
    iterate 9 (walk_at "den";try S![h0,h1,if_pos hs,hg,if_pos hl,hc,hb,hid,hA,decide_false])
    simp
   |true=>
    h! ok:PyData.strOk z=true:=by
     u! PyData.strOk;rw[<-Array.all_toList];r! List.all_eq_true.mpr λc hc=>?_;h!:=List.all_eq_true.mp hA c hc;u! TR.sJ at this;S![Bool.and_eq_true,decide_eq_true_eq]at this⊢;om
    h! kok:∀k∈Bd,PyData.strOk k=true:=by decide+kernel
    h! hv:=Rw ok kok;h! nin:yr (.str z) (.tup [(.str "mark"),(.str "fill"),(.str "here"),(.str "back"),(.str "on"),(.str "at"),(.str "ago"),(.str "until"),(.str "abs"),(.str "and"),(.str "or"),(.str "not")])=.ok (.bl (!decide (z∈Bd))):=by
     show(match lN (.str z) (Bd.map D.str)with|some b=>R.ok (D.bl (!b))|none=>.bad)=_;rw[hv]
    iterate 9 (walk_at "den";try S![h0,h1,if_pos hs,hg,if_pos hl,hc,hb,hid,hA,nin,decide_false])
    by_cases hk:z∈Bd;·simp[hk,(ab3 z).mp hk]
    ·h! hk2:¬az z∈TR.Gu:=λw=>hk ((ab3 z).mpr w)
     simp[hk,hk2,Ru,h1]
  ·h! hg:(8:Int)<((z.length:Nat):Int):=by om
   h! Ru:¬(az z).length<=8:=by om
   iterate 7 (walk_at "den";try S![h0,h1,if_pos hs,hg,decide_true,decide_false])
   simp[Ru]
D! wW(cs:List Nat)(lo hi:Nat):Option Nat:=if iy cs (num hi).length=true/\lo<=digitsVal cs/\digitsVal cs<=hi then some (digitsVal cs)else none
D! uG(a:Ad)(o:Option Nat):R D:=match o with
 |some v=>.ok (.int (v:Nat))
 |none=>.ex a.NoText ["row"] [.int 1]
T! alj{Fn:R!}(hn:∀(z:Str) (k:Nat),z.length<=1000000->Fn [.str z,.int k]=.ok (.bl (iy (az z) k)))(z:Str)(lo hi:Nat)(hz:z.length<=1000000)(hh:hi<10^400):
    aL (KR a Fn (aM 4 [.str z,.int lo,.int hi]))=uG a (wW (az z) lo hi):=by
 h! s1:qR [.int (hi:Nat)]=.ok (.str (toString ((hi:Nat):Int))):=Vs o?;h! c1:=Qs hi;h! l1:(num hi).length<=400:=yu (k:=399) hh;generalize hw:Str.ofString (toString ((hi:Nat):Int))=w at c1 s1;h! lw:w.length=(num hi).length:=by rw[jQ,c1]
 h! LC:w.length<=sizeLine:=size_of o?;h! n1:=hn z (num hi).length hz;rw[<-lw]at n1;h! Bm:Fn [.str z,.int ((w.length:Nat):Int)]=.ok (.bl (iy (az z) (num hi).length)):=by rw[n1,lw]
 u! KR wW;cases hb:iy (az z) (num hi).length with
 |false=>
  rw[hb]at Bm;iterate 6 (walk_at "den";try S![s1,if_pos LC,Bm])
  simp[uG]
 |true=>
  rw[hb]at Bm;o!⟨k1,k2⟩:=Ti hb;o!⟨k3,k4⟩:=Q8 k2;h! j1:z.length<=640:=by rw[jQ];om
  h! i1:intText? z=some ((digitsVal (az z):Nat):Int):=intText_of k3 k4 j1;by_cases h1:digitsVal (az z)<lo
  ·h! uh:((digitsVal (az z):Nat):Int)<(lo:Int):=by om
   iterate 8 (walk_at "den";try S![s1,if_pos LC,Bm,i1,if_pos j1,uh,decide_true])
   h!:¬lo<=digitsVal (az z):=by om
   simp[uG,this]
  ·h! uh:¬((digitsVal (az z):Nat):Int)<(lo:Int):=by om
   by_cases h2:hi<digitsVal (az z)
   ·h! xW:(hi:Int)<((digitsVal (az z):Nat):Int):=by om
    iterate 8 (walk_at "den";try S![s1,if_pos LC,Bm,i1,if_pos j1,uh,xW,decide_true,decide_false])
    h!:¬digitsVal (az z)<=hi:=by om
    simp[uG,this]
   ·h! xW:¬(hi:Int)<((digitsVal (az z):Nat):Int):=by om
    iterate 9 (walk_at "den";try S![s1,if_pos LC,Bm,i1,if_pos j1,uh,xW,decide_true,decide_false])
    h! g1:lo<=digitsVal (az z):=by om
    h! g2:digitsVal (az z)<=hi:=by om
    simp[g1,g2,uG]
D! G8(a:Ad)(z:Str):R D:=if TR.kh (az z)=true then .ok (.str z)else .ex a.NoText ["row"] [.int 1]
T! alm{Fi:R!}(hw:∀z:Str,z.length<=1000000->Fi [.str z]=.ok (.bl (TR.kh (az z))))(z:Str)(hz:z.length<=1000000):aL (KY a Fi (aM 1 [.str z]))=G8 a z:=by
 h! h:=hw z hz;u! KY G8;cases e:TR.kh (az z)with
 |false=>
  rw[e]at h;iterate 5 (walk_at "den";try S![h])
  try rfl
 |true=>
  rw[e]at h;iterate 5 (walk_at "den";try S![h])
  try rfl
T! Vk{f:Ev->R D}{fj:Str->Ev->R D}{x y:Str}{ρ:Ev}(h:f ρ=.ok (.str y))(hl:(x++y).length<=sizeLine):b8 f fj x ρ=fj (x++y) ρ:=by
 rw[Vj,h];show(if(x++y).length<=sizeLine then fj (x++y) ρ else .bad)=_;rw[if_pos hl]
end WP
namespace WR
open PySem L2 P2 WP TM T2 PySem.NumText
A! Tk:=List Nat
inductive Pr where
 |ok(d:D)(r:List Tk)(k b:Nat)|no|bad
A! PF:=List Tk->Nat->Nat->Pr
D! aQ:List Nat->List Nat->Bool
 |[],[]=>true
 |x::xs,y::ys=>Nat.beq x y&&aQ xs ys
 |_,_=>false
T! oU:∀x y:List Nat,aQ x y=true↔x=y
 |[],[]=>by simp[aQ]
 |[],_::_=>by simp[aQ]
 |_::_,[]=>by simp[aQ]
 |x::xs,y::ys=>by
  u! aQ;rw[Bool.and_eq_true,oU xs ys,Nat.beq_eq];simp
A! tS(t:Tk):D:=.str (aq t)
T! QL(t:Tk)(s:Str):decide (aq t=s)=aQ t (az s):=by
 rw[Bool.eq_iff_iff,decide_eq_true_eq,oU];~\(λh=>by rw[<-h,lZ],λh=>by rw[h,lO])
T! XJ(t:Tk)(s:Str):cX (tS t) (.str s)=.ok (.bl (aQ t (az s))):=by rw[M6,QL]
T! XM(t:Tk)(s:Str):fY (tS t) (.str s)=.ok (.bl (!aQ t (az s))):=by rw[Vo,QL]
T! QK(t:Tk):∀ks:List Str,decide (aq t∈ks)=(ks.map az).any (aQ t)
 |[]=>by simp
 |k::ks=>by
  rw[List.map_cons,List.any_cons,<-QK t ks,<-QL,Bool.eq_iff_iff];simp
T! afE(t:Tk)(ks:List Str)(h:PyData.strOk (aq t)=true)(hk:∀k∈ks,PyData.strOk k=true):cT (tS t) (.tup (ks.map D.str))=.ok (.bl ((ks.map az).any (aQ t))):=by
 show(match lN (.str (aq t)) (ks.map D.str)with|some b=>R.ok (D.bl b)|none=>.bad)=_;rw[Rw h hk,QK]
T! arl(t:Tk)(ks:List Str)(h:PyData.strOk (aq t)=true)(hk:∀k∈ks,PyData.strOk k=true):yr (tS t) (.tup (ks.map D.str))=.ok (.bl (!(ks.map az).any (aQ t))):=by
 show(match lN (.str (aq t)) (ks.map D.str)with|some b=>R.ok (D.bl (!b))|none=>.bad)=_;rw[Rw h hk,QK]
D! fU(x:Pr)(f:D->PF):Pr:=match x with
 |.ok d r k b=>f d r k b
 |.no=>.no
 |.bad=>.bad
D! jR(f:D->D)(x:Pr):Pr:=fU x λd r k b=>.ok (f d) r k b
D! nx:List Tk->Tk
 |[]=>[]
 |t::_=>t
D! tk(r:List Tk)(f:Tk->List Tk->Pr):Pr:=match r with
 |[]=>.no
 |t::r=>f t r
D! xp(c:Tk)(r:List Tk)(f:List Tk->Pr):Pr:=tk r λx r=>bif aQ x c then f r else .no
D! bg(k:Nat)(f:Nat->Pr):Pr:=bif Nat.ble k 29 then f (k+1)else .no
D! en(t:Tk)(r:List Tk)(b:Nat)(f:List Tk->Nat->Pr):Pr:=tk r λx r=>bif aQ x t then(bif Nat.ble b 15 then f r (b+1)else .no)else .no
D! lv(t:Tk)(d:D)(r:List Tk)(k b:Nat):Pr:=tk r λx r=>bif aQ x t then(match b with
 |b+1=>.ok d r k b
 |0=>.bad)else .no
D! pQ(t:Tk):Option (Int×Int):=match oA t with
 |some (p,q)=>if p.natAbs<1000000000/\q<1000000 then some (p,q)else none
 |none=>none
D! opt{α:Type}(o:Option α)(f:α->Pr):Pr:=match o with
 |some v=>f v
 |none=>.no
D! Bx:List Tk:=[[98,97,99,107],[111,110],[97,103,111],[117,110,116,105,108]]
D! Mz(v:Int×Int):D:=.tup [.int v.1,.int v.2]
D! Bt(ps:PF):PF:=λr k b=>en [40] r b λr b=>fU (ps r k b) λd r k b=>lv [41] d r k b
D! wD(pb:PF):PF:=λr k b=>bif aQ (nx r) [40]then pb r k b else bg k λk=>tk r λw r=>
    bif aQ w [104,101,114,101]then .ok (.tup [.str "here"]) r k b else
    bif Bx.any (aQ w)then tk r λt r=>opt (wW t 1 9) λn=>.ok (.tup [tS w,.int (n:Nat)]) r k b else
    bif aQ w [97,116]then tk r λt r=>(bif TR.kh t then .ok (.tup [.str "at",tS t]) r k b else .no)else
    bif aQ w [97,98,115]then jR (λd=>.tup [.str "abs",d]) (pb r k b)else
    opt (pQ w) λv=>.ok (.tup [.str "num",Mz v]) r k b
D! uH(psg:PF):PF:=λr k b=>bif aQ (nx r.tail) [42]then tk r λf r=>opt (pQ f) λv=>xp [42] r λr=>bg k λk=>jR (λd=>.tup [.str "times",Mz v,d]) (psg r k b)
 else psg r k b
D! o4(pp:PF):Nat->D->PF
 |0,_,_,_,_=>.bad
 |n+1,d,r,k,b=>bif [[43],[45]].any (aQ (nx r))then tk r λs r=>bg k λk=>fU (pp r k b) λe r k b=>o4 pp n (.tup [tS s,d,e]) r k b else .ok d r k b
D! Bu(pp:PF):PF:=λr k b=>fU (pp r k b) λd r k b=>o4 pp 100 d r k b
D! yD(ps:PF):PF:=λr k b=>bg k λk=>fU (ps r k b) λd r k b=>tk r λs r=>bif [[60],[61]].any (aQ s)then jR (λe=>.tup [tS s,d,e]) (ps r k b)else .no
D! yE(pn po pc:PF):PF:=λr k b=>
 bif aQ (nx r) [110,111,116]then xp [110,111,116] r λr=>bg k λk=>jR (λd=>.tup [.str "not",d]) (pn r k b)else
 bif aQ (nx r) [91]then en [91] r b λr b=>fU (po r k b) λd r k b=>lv [93] d r k b else pc r k b
D! jt(w:Tk)(s:Str)(pp:PF):Nat->D->PF
 |0,_,_,_,_=>.bad
 |n+1,d,r,k,b=>bif aQ (nx r) w then xp w r λr=>bg k λk=>fU (pp r k b) λe r k b=>jt w s pp n (.tup [.str s,d,e]) r k b else .ok d r k b
D! pO(w:Tk)(s:Str)(pp:PF):PF:=λr k b=>fU (pp r k b) λd r k b=>jt w s pp 100 d r k b
structure agZ where
 (su pr sg br:PF)
D! f0:Nat->agZ
 |0=>\(λ_ _ _=>.bad,λ_ _ _=>.bad,λ_ _ _=>.bad,λ_ _ _=>.bad)
 |n+1=>\(Bu (f0 n).pr,uH (f0 n).sg,wD (f0 n).br,Bt (f0 n).su)
structure ag0 where
 (or and not:PF)
D! f1:Nat->ag0
 |0=>\(λ_ _ _=>.bad,λ_ _ _=>.bad,λ_ _ _=>.bad)
 |n+1=>\(pO [111,114] "or" (f1 n).and,pO [97,110,100] "and" (f1 n).not,yE (f1 n).not (f1 n).or (yD (f0 75).su))
D! pEnd(x:Pr):Pr:=fU x λd r k b=>match r with
 |[]=>.ok d r k b
 |_::_=>.no
D! dq(c:Nat):Bool:=(Nat.ble 97 c&&Nat.ble c 122)||(Nat.ble 47 c&&Nat.ble c 57)
D! bQ(cs:List Nat):List Tk:=(bF 32 (cs.flatMap λc=>bif dq c then[c]else[32,c,32])).filter λt=>!t.isEmpty
D! parse(cs:List Nat):Pr:=pEnd ((f1 85).or (bQ cs) 0 0)
D! aH(a:Ad)(T:List Tk)(p k b:Nat):aC:=[.ob a.Tokens [("tokens",.d (.lst (T.map tS))),("place",.d (.int p)),("parts",.d (.int k)),("brackets",.d (.int b))]]
D! Rl(a:Ad)(T:List Tk)(x:RX Z):Pr->Prop
 |.ok d r k b=>∃p,T.drop p=r/\x=.ok (.d d) (aH a T p k b)
 |.no=>∃S,x=.ex a.NoText ["row"] [.int 1] S
 |.bad=>True
D! eU(a:Ad)(T:List Tk)(F:Z!)(G:PF):Prop:=∀p k b,Rl a T (F [.loc 0] (aH a T p k b)) (G (T.drop p) k b)
structure jf(T:List Tk):Prop where
 n:∀t∈T,t≠[]
 s:∀t∈T,PyData.strOk (aq t)=true
 l:T.length<=100000
section
variable{a:Ad}{T:List Tk}{p k b:Nat}{ρ:aJ}{α β:Type}
T! yV{x:α}{S:aC}{f:α->aC->aU}:toZ (.ok x S) f=f x S:=rfl
T! Yg{c:Addr}{ns:List Str}{ds:List D}{S:aC}{f:α->aC->aU}:toZ (.ex c ns ds S) f=.ex c ns ds S:=rfl
T! lV{x:α}{S:aC}{f:α->aC->RX β}:(RX.ok x S).bind f=f x S:=rfl
T! X7{c:Addr}{ns:List Str}{ds:List D}{S:aC}{f:α->aC->RX β}:(RX.ex c ns ds S).bind f=.ex c ns ds S:=rfl
T! yU{S:aC}{f:aJ->aC->aU}:lA (.nx ρ S) f=f ρ S:=rfl
T! Ye{c:Addr}{ns:List Str}{ds:List D}{S:aC}{f:aJ->aC->aU}:lA (.ex c ns ds S) f=.ex c ns ds S:=rfl
T! agB{z:Z}{S:aC}{f:aJ->aC->aU}:lA (.rt z S) f=.rt z S:=rfl
T! agD{S:aC}{f:aJ->aC->aU}:mJ (.nx ρ S) f=f ρ S:=rfl
T! agE{c:Addr}{ns:List Str}{ds:List D}{S:aC}{f:aJ->aC->aU}:mJ (.ex c ns ds S) f=.ex c ns ds S:=rfl
T! agp{z:Z}{S:aC}:bw (.rt z S)=.ok z S:=rfl
T! X8{S:aC}:bw (.nx ρ S)=.ok (.d .non) S:=rfl
T! agq{c:Addr}{ns:List Str}{ds:List D}{S:aC}:bw (.ex c ns ds S)=.ex c ns ds S:=rfl
T! oF{x:α}{S:aC}:iC (.ok x) S=.ok x S:=rfl
T! Yh{c:Addr}{ns:List Str}{ds:List D}{S:aC}:iC (.ex c ns ds:R α) S=.ex c ns ds S:=rfl
T! gH{f g:aJ->aC->aU}{S:aC}:aY f g ρ S=lA (f ρ S) g:=rfl
T! sZ{f:K!}{S:aC}:fO f ρ S=toZ (f ρ S) λ_ S1=>.nx ρ S1:=rfl
T! uX{f:K!}{S:aC}:fD f ρ S=toZ (f ρ S) .rt:=rfl
T! wO{f:K!}{S:aC}{z y:Option Z}:cU 1 f (z::y::ρ) S=toZ (f (z::y::ρ) S) λx S1=>.nx (z::some x::ρ) S1:=by
 u! cU
 congr 1
 try funext x S1
 try ~if_pos (by simp)
T! Og{f:K!}{S:aC}{z y x:Option Z}:cU 2 f (z::y::x::ρ) S=toZ (f (z::y::x::ρ) S) λv S1=>.nx (z::y::some v::ρ) S1:=by
 u! cU
 congr 1
 try funext v S1
 try ~if_pos (by simp)
T! CP{c:aJ->aC->RX Bool}{f g:aJ->aC->aU}{S:aC}:dH c f g ρ S=toZ (c ρ S) λk S1=>bif k then f ρ S1 else g ρ S1:=by
 u! dH
 congr 1
 funext k S1;c! k<;>rfl
T! agF{S:aC}:f9 ρ S=.nx ρ S:=rfl
T! wV{F:Z!}{f:aJ->aC->RX (List Z)}{S:aC}:zZ F f ρ S=(f ρ S).bind F:=rfl
T! ph{S:aC}:aW ρ S=.ok [] S:=rfl
T! oG{f:K!}{g:aJ->aC->RX (List Z)}{S:aC}:aN f g ρ S=(f ρ S).bind λx S1=>(g ρ S1).bind λxs S2=>.ok (x::xs) S2:=rfl
T! wU{z:Z}{S:aC}:zV 0 (some z::ρ) S=.ok z S:=rfl
T! agI{z:Z}{y:Option Z}{S:aC}:zV 1 (y::some z::ρ) S=.ok z S:=rfl
T! pU{f:Ev->R D}{S:aC}:zD f ρ S=(iC (f (dB ρ)) S).bind λd S=>.ok (.d d) S:=rfl
T! agG{f:Ev->R Bool}{S:aC}:zB f ρ S=iC (f (dB ρ)) S:=rfl
T! wQ{g:D->D->R D}{f h:K!}{S:aC}:z2 g f h ρ S=(f ρ S).bind λx S1=>(h ρ S1).bind λy S2=>match x,y with
 |.d x,.d y=>(iC (g x y) S2).bind λd S=>.ok (.d d) S
 |_,_=>.bad:=rfl
T! wR{g:D->R Bool}{f:K!}{S:aC}:il g f ρ S=(f ρ S).bind λx S1=>match x with
 |.d x=>iC (g x) S1
 |_=>.bad:=rfl
T! agH{c:aJ->aC->RX Bool}{f g:K!}{S:aC}:Oj c f g ρ S=(c ρ S).bind λk S1=>bif k then f ρ S1 else g ρ S1:=by
 u! Oj
 congr 1
 funext k S1;c! k<;>rfl
T! qU{g:R!}{f:aJ->aC->RX (List Z)}{S:aC}:zF g f ρ S=(f ρ S).bind λzs S1=>match jg zs with
 |some ds=>(iC (g ds) S1).bind λd S=>.ok (.d d) S
 |none=>.bad:=rfl
T! agi:jg []=some []:=rfl
T! Oe{x:D}:jg [.d x]=some [x]:=rfl
T! agj{x y:D}:jg [.d x,.d y]=some [x,y]:=rfl
T! X6{x y z:D}:jg [.d x,.d y,.d z]=some [x,y,z]:=rfl
T! Ig:dB []=[]:=rfl
T! Ii{n:Nat}:dB (some (.loc n)::ρ)=.no::dB ρ:=rfl
T! Ih{x:D}:dB (some (.d x)::ρ)=.sh x::dB ρ:=rfl
T! agy:dB (none::ρ)=.no::dB ρ:=rfl
T! agt{d:D}:bK [d]=.ok (.tup [d]):=BR (by simp)
T! Yb{d e:D}:bK [d,e]=.ok (.tup [d,e]):=BR (by simp)
T! Yc{d e f:D}:bK [d,e,f]=.ok (.tup [d,e,f]):=BR (by simp)
T! Yd{d e f g:D}:bK [d,e,f,g]=.ok (.tup [d,e,f,g]):=BR (by simp)
T! agz{S:aC}:leave ((λρ=>toS ((ak #1 aB) ρ) λds=>RT.ex a.NoText ["row"] ds) (dB ρ)) S=.ex a.NoText ["row"] [.int 1] S:=rfl
T! agA{S:aC}:leave (toS (R.ok [D.int 1]) λds=>RT.ex a.NoText ["row"] ds) S=.ex a.NoText ["row"] [.int 1] S:=rfl
T! agC:oJ a.Tokens (zV 0) "tokens" (some (.loc 0)::ρ) (aH a T p k b)=.ok (.d (.lst (T.map tS))) (aH a T p k b):=by
 u! oJ aH;show(if a.Tokens=a.Tokens then _ else _)=_;rw[if_pos rfl];rfl
T! agw:oJ a.Tokens (zV 0) "place" (some (.loc 0)::ρ) (aH a T p k b)=.ok (.d (.int p)) (aH a T p k b):=by
 u! oJ aH;show(if a.Tokens=a.Tokens then _ else _)=_;rw[if_pos rfl];rfl
T! agu:oJ a.Tokens (zV 0) "parts" (some (.loc 0)::ρ) (aH a T p k b)=.ok (.d (.int k)) (aH a T p k b):=by
 u! oJ aH;show(if a.Tokens=a.Tokens then _ else _)=_;rw[if_pos rfl];rfl
T! agk:oJ a.Tokens (zV 0) "brackets" (some (.loc 0)::ρ) (aH a T p k b)=.ok (.d (.int b)) (aH a T p k b):=by
 u! oJ aH;show(if a.Tokens=a.Tokens then _ else _)=_;rw[if_pos rfl];rfl
T! agx:pq a.Tokens (zV 0) "place" (λi j=>i+j) (zD #1) (some (.loc 0)::ρ) (aH a T p k b)=.nx (some (.loc 0)::ρ) (aH a T (p+1) k b):=by
 u! pq aH;show(if a.Tokens=a.Tokens then _ else _)=_;rw[if_pos rfl];show(if a.Tokens=a.Tokens/\_ then _ else _)=_;rw[if_pos \(rfl,by simp)];rfl
T! agv:pq a.Tokens (zV 0) "parts" (λi j=>i+j) (zD #1) (some (.loc 0)::ρ) (aH a T p k b)=.nx (some (.loc 0)::ρ) (aH a T p (k+1) b):=by
 u! pq aH;show(if a.Tokens=a.Tokens then _ else _)=_;rw[if_pos rfl];show(if a.Tokens=a.Tokens/\_ then _ else _)=_;rw[if_pos \(rfl,by simp)];rfl
T! agl:pq a.Tokens (zV 0) "brackets" (λi j=>i+j) (zD #1) (some (.loc 0)::ρ) (aH a T p k b)=.nx (some (.loc 0)::ρ) (aH a T p k (b+1)):=by
 u! pq aH;show(if a.Tokens=a.Tokens then _ else _)=_;rw[if_pos rfl];show(if a.Tokens=a.Tokens/\_ then _ else _)=_;rw[if_pos \(rfl,by simp)];rfl
T! agm:pq a.Tokens (zV 0) "brackets" (λi j=>i - j) (zD #1) (some (.loc 0)::ρ) (aH a T p k (b+1))=.nx (some (.loc 0)::ρ) (aH a T p k b):=by
 u! pq aH;show(if a.Tokens=a.Tokens then _ else _)=_;rw[if_pos rfl];show(if a.Tokens=a.Tokens/\_ then _ else _)=_;rw[if_pos \(rfl,by simp)];h! e:(((b+1:Nat):Int) - 1)=(b:Nat):=by om
 show aU.nx _ [Cell.ob a.Tokens [("tokens",.d (.lst (T.map tS))),("place",.d (.int p)),("parts",.d (.int k)),("brackets",.d (.int (((b+1:Nat):Int) - 1)))]]=_;rw[e]
T! uW{m:Str}{F:Z!}{dz:List D}{fs:aJ->aC->RX (List Z)}{zs:List Z}(hm:(m=="tokens")=false/\(m=="place")=false/\(m=="parts")=false/\(m=="brackets")=false)(h:fs (some (.loc 0)::ρ) (aH a T p k b)=.ok zs (aH a T p k b)):
    cQ a.Tokens m F dz (zV 0) fs (some (.loc 0)::ρ) (aH a T p k b)=F (.loc 0::(zs++dz.map .d)) (aH a T p k b):=by
 u! cQ;o!⟨h1,h2,h3,h4⟩:=hm;show(if a.Tokens=a.Tokens/\List.lookup m [("tokens",Z.d (.lst (T.map tS))),("place",.d (.int p)),("parts",.d (.int k)),("brackets",.d (.int b))]=none then _ else _)=_;rw[if_pos \(rfl,by rw[List.lookup_cons,h1,List.lookup_cons,h2,List.lookup_cons,h3,List.lookup_cons,h4];rfl),h];rfl
end
end WR
namespace P2
open PySem
end P2
namespace WC
open PySem L2 P2 WP TM T2 PySem.NumText
variable{a:Ad}
T! acD(x y:List Nat):aq x++aq y=aq (x++y):=by
 apply TM.ext;rw[gD];rfl
T! GD(x:List Nat):(aq x).length=x.length:=by rw[jQ];rfl
T! acE(i:Int):Str.ofString (toString i)=aq (dm i):=by
 apply TM.ext;rw[JD];rfl
T! fits{n:Nat}(h:n<=100000):n<=sizeLine:=size_of o?
T! gj{x y:List Nat}(h1:x.length<=50000)(h2:y.length<=50000):aP (.str (aq x)) (.str (aq y))=.ok (.str (aq (x++y))):=by
 show(if(aq x).length+(aq y).length<=sizeLine then R.ok (D.str (aq x++aq y))else .bad)=_;rw[GD,GD,if_pos (fits o?),acD]
T! vY{x:List Nat}(h:x.length<=50000):du (.str (aq x))=.ok (.str (aq x)):=by
 show(if(aq x).length<=sizeLine then R.ok (D.str (aq x))else .bad)=_;rw[GD,if_pos (fits o?)]
T! ajm{i:Int}(h:i.natAbs<10^400):du (.int i)=.ok (.str (aq (dm i))):=by rw[Vd h,acE]
T! XD{i:Int}(h:i.natAbs<10^400):qR [.int i]=.ok (.str (aq (dm i))):=by rw[Vs h,acE]
T! jC{f:Ev->R D}{fj:Str->Ev->R D}{x y:List Nat}{ρ:Ev}(h:f ρ=.ok (.str (aq y)))(hl:x.length+y.length<=100000):b8 f fj (aq x) ρ=fj (aq (x++y)) ρ:=by
 show(f ρ).bind (λz=>match z with|.str y=>if(aq x++y).length<=sizeLine then fj (aq x++y) ρ else .bad|_=>.bad)=_;rw[h];show(if(aq x++aq y).length<=sizeLine then fj (aq x++aq y) ρ else .bad)=_;rw[acD,GD,List.length_append,if_pos (fits hl)]
T! jN{x:List Nat}{ρ:Ev}(hl:x.length<=100000):iV (aq x) ρ=.ok (.str (aq x)):=by
 show(if(aq x).length<=sizeLine then R.ok (D.str (aq x))else .bad)=_;rw[GD,if_pos (fits hl)]
T! em:Str.empty=aq []:=rfl
T! Gz{x y z:List Nat}(h1:x.length<=30000)(h2:y.length<=100)(h3:z.length<=30000):aL (Er a (aM 3 [.str (aq x),.str (aq y),.str (aq z)]))=.ok (.str (aq (x++32::(y++32::z)))):=by
 h! s:(dC (.str (Str.ofString " "))) [.sh (.str (aq x)),.sh (.str (aq y)),.sh (.str (aq z))]=.ok (.str (aq [32])):=rfl;h! v0:(d1 du &0) [.sh (.str (aq x)),.sh (.str (aq y)),.sh (.str (aq z))]=.ok (.str (aq x)):=vY o?;h! v1:(d1 du &1) [.sh (.str (aq x)),.sh (.str (aq y)),.sh (.str (aq z))]=.ok (.str (aq y)):=vY o?;h! v2:(d1 du &2) [.sh (.str (aq x)),.sh (.str (aq y)),.sh (.str (aq z))]=.ok (.str (aq z)):=vY o?;show aL (toS ((b8 (d1 du &0) (b8 #" " (b8 (d1 du &1) (b8 #" " (b8 (d1 du &2) iV))))) (aq []) [.sh (.str (aq x)),.sh (.str (aq y)),.sh (.str (aq z))]) RT.rt)=_;rw[jC v0 g!,jC s g!,jC v1 g!,jC s g!,jC v2 g!,jN g!];show R.ok (D.str _)=_;simp
A! pr(p q:Int):D:=.tup [.int p,.int q]
inductive Tm where
 |num(p q:Int)|here|fZ(w:Nat)(n:Int)|at(m:List Nat)|bin(s:Bool)(x y:Tm)|times(p q:Int)(x:Tm)|abs(x:Tm)
D! wd(w:Nat):Str:=if w=0 then"back" else if w=1 then"on" else if w=2 then"ago" else"until"
D! sg(s:Bool):Str:=if s=true then"+" else"-"
D! Tm.k:Tm->Str
 |.num _ _=>"num"
 |.here=>"here"
 |.fZ w _=>wd w
 |.at _=>"at"
 |.bin s _ _=>sg s
 |.times _ _ _=>"times"
 |.abs _=>"abs"
D! Tm.d:Tm->D
 |.num p q=>.tup [.str "num",pr p q]
 |.here=>.tup [.str "here"]
 |.fZ w n=>.tup [.str (wd w),.int n]
 |.at m=>.tup [.str "at",.str (aq m)]
 |.bin s x y=>.tup [.str (sg s),x.d,y.d]
 |.times p q x=>.tup [.str "times",pr p q,x.d]
 |.abs x=>.tup [.str "abs",x.d]
D! Tm.rk:Tm->Int
 |.bin _ _ _=>1
 |.times _ _ _=>2
 |_=>3
D! brk(o c:Nat)(b:Bool)(x:List Nat):List Nat:=if b=true then o::(x++[c])else x
D! Tm.tx:Tm->List Nat
 |.num p q=>cB p q
 |.here=>az "here"
 |.fZ w n=>az (wd w)++32::dm n
 |.at m=>az "at"++32::m
 |.bin s x y=>x.tx++32::(az (sg s)++32::brk 40 41 (decide (y.rk<2)) y.tx)
 |.times p q x=>cB p q++32::([42]++32::brk 40 41 (decide (x.rk<3)) x.tx)
 |.abs x=>[97,98,115,40]++(x.tx++[41])
D! Tm.sz:Tm->Nat
 |.bin _ x y=>x.sz+y.sz+1
 |.times _ _ x=>x.sz+1
 |.abs x=>x.sz+1
 |_=>1
structure Fq(p q:Int):Prop where
 nn:0<=p
 low:FM.rE p q
 p:p.natAbs<10^9
 q:0<q/\q.natAbs<10^6
D! Tm.Ok:Tm->Prop
 |.num p q=>Fq p q
 |.fZ _ n=>1<=n/\n<=9
 |.at m=>m.length<=8/\m≠[]/\(∀c∈m,97<=c/\c<=122)/\TR.kh m=true
 |.bin _ x y=>x.Ok/\y.Ok
 |.times p q x=>Fq p q/\x.Ok
 |.abs x=>x.Ok
 |.here=>True
T! yt{i:Int}(h:i.natAbs<10^9):(dm i).length<=10:=by
 h!:=yu (k:=8) (m:=i.natAbs) h;u! dm;split;·rw[List.length_cons];om
 ·om
T! Cm{p q:Int}(h:Fq p q):(cB p q).length<=20:=by
 h! h1:=yt h.p;h! h2:=yu (k:=8) (m:=q.natAbs) (Nat.lt_of_lt_of_le h.q.2 d?);u! cB;split;·om
 ·rw[List.length_append,List.length_cons];om
T! Yi(w:Nat):(az (wd w)).length<=5:=by
 u! wd;split;·decide
 ·split
  ·decide
  ·split<;>decide
T! Wu(s:Bool):(az (sg s)).length=1:=by c! s<;>decide
T! jz(o c:Nat)(b:Bool)(x:List Nat):(brk o c b x).length<=x.length+2:=by
 u! brk;split;·simp
 ·om
T! Tm.len:∀{t:Tm},t.Ok->t.tx.length<=40*t.sz
 |.num p q,h=>by h!:=Cm h;show(cB p q).length<=40*1;om
 |.here,_=>by decide
 |.fZ w n,h=>by
  h! h1:=Yi w;h! h':1<=n/\n<=9:=h;h! h2:=yt (i:=n) o?;show(az (wd w)++32::dm n).length<=40*1;rw[List.length_append,List.length_cons];om
 |.at m,h=>by
  h! h':m.length<=8:=h.1;show(az "at"++32::m).length<=40*1;rw[List.length_append,List.length_cons,show(az "at").length=2 by decide];om
 |.bin s x y,h=>by
  h! h1:=Tm.len h.1;h! h2:=Tm.len h.2;h! h3:=Wu s;h! h4:=jz 40 41 (decide (y.rk<2)) y.tx;show(x.tx++32::(az (sg s)++32::brk 40 41 (decide (y.rk<2)) y.tx)).length<=40*(x.sz+y.sz+1);rw[List.length_append,List.length_cons,List.length_append,List.length_cons];om
 |.times p q x,h=>by
  h! h1:=Cm h.1;h! h2:=Tm.len h.2;h! h4:=jz 40 41 (decide (x.rk<3)) x.tx;show(cB p q++32::([42]++32::brk 40 41 (decide (x.rk<3)) x.tx)).length<=40*(x.sz+1);S![List.length_append,List.length_cons,List.length_nil];om
 |.abs x,h=>by
  h! h2:=Tm.len (t:=x) h;show([97,98,115,40]++(x.tx++[41])).length<=40*(x.sz+1);simp;om
T! Tm.pos(t:Tm):1<=t.sz:=by c! t<;>simp[Tm.sz]
T! Tm.d0(t:Tm):∃r,t.d=.tup (.str t.k::r):=by c! t<;>~\(_,rfl)
T! acA{Fs:R!}{t:Tm}{L:D}{b:Bool}(h:Fs [t.d]=.ok (.str (aq t.tx)))(hl:t.tx.length<=20000)(hb:cT (.str t.k) L=.ok (.bl b)):
    aL (Eu a Fs (aM 3 [t.d,L]))=.ok (.str (aq (brk 40 41 b t.tx))):=by
 o!⟨r,e⟩:=t.d0;rw[e]at h⊢;h! Gs:L2.bN (D.str t.k::r) ((0:Nat):Int)=some (.str t.k):=vM rfl;h! i0:L2.bN (D.str t.k::r) 0=some (.str t.k):=Gs;h! s1:(dC (.str (Str.ofString "("))) [.sh (.tup (.str t.k::r)),.sh L,.sh (.str (aq t.tx))]=.ok (.str (aq [40])):=rfl;h! s2:(dC (.str (Str.ofString ")"))) [.sh (.tup (.str t.k::r)),.sh L,.sh (.str (aq t.tx))]=.ok (.str (aq [41])):=rfl;h! v2:(d1 du &2) [.sh (.tup (.str t.k::r)),.sh L,.sh (.str (aq t.tx))]=.ok (.str (aq t.tx)):=vY o?;h! ik:(P2.b1 tB (d2 cT (d2 aO &0 #0) &1)) [.sh (.tup (.str t.k::r)),.sh L,.sh (.str (aq t.tx))]=.ok b:=by
  iterate 4 (walk_at "den";try S![i0,hb])
 u! Eu;generalize(P2.b1 tB (d2 cT (d2 aO &0 #0) &1))=tt at ik⊢;h! j:((b8 #"(" (b8 (d1 du &2) (b8 #")" iV))) Str.empty) [.sh (.tup (.str t.k::r)),.sh L,.sh (.str (aq t.tx))]=.ok (.str (aq (40::(t.tx++[41])))):=by
  rw[em,jC s1 (by simp),jC v2 g!,jC s2 g!,jN g!];rfl
 generalize((b8 #"(" (b8 (d1 du &2) (b8 #")" iV))) Str.empty)=jj at j⊢;cases b with
 |true=>iterate 7 (walk_at "den";try S![h,ik,j]);try rfl
 |false=>iterate 7 (walk_at "den";try S![h,ik,j]);try rfl
D! F0T(a:Ad)(Fs:R!):R!:=λds=>aL (jO a (λds=>aL (Eu a Fs (aM 3 ds))) Fs (λds=>aL (Er a (aM 3 ds))) (λds=>aL (Et a (aM 3 ds))) (aM 4 ds))
T! adA:∀ys:List Str,oh (ys.map D.str)=some (ys.map PyData.str)
 |[]=>rfl
 |y::ys=>by show(Hd (.str y)).bind (λp=>(oh (ys.map D.str)).map (p:: ·))=_;rw[adA ys];rfl
T! Gv:∀ys:List Str,(∀y∈ys,PyData.strOk y=true)->PyData.canLayAll0 (ys.map PyData.str)=true
 |[],_=>by simp[PyData.canLayAll0]
 |y::ys,h=>by
  h!:=Gv ys λz hz=>h z (.tail _ hz);simp[PyData.canLayAll0,PyData.canLay0,this,h y (.head _)]
T! Dw(x:Str):∀ys:List Str,((ys.map PyData.str).any λy=>PyData.eqv y (.str x))=ys.any λy=>y==x
 |[]=>rfl
 |y::ys=>by rw[List.map_cons,List.any_cons,List.any_cons,Dw x ys];simp[PyData.eqv]
T! ajH{x:Str}{ys:List Str}(hx:PyData.strOk x=true)(hy:∀y∈ys,PyData.strOk y=true):lN (.str x) (ys.map D.str)=some (ys.any λy=>y==x):=by
 u! lN;rw[adA];show(if(PyData.canLayAll0 (ys.map PyData.str)&&PyData.canLay0 (.str x)&&decide ((PyData.str x).depth<=63))=true then some ((ys.map PyData.str).any λy=>PyData.eqv y (.str x))else none)=_;rw[Gv ys hy,Dw,if_pos];simp[PyData.canLay0,hx,PyData.depth]
T! Lk{x:Str}{ys:List Str}(hx:PyData.strOk x=true)(hy:∀y∈ys,PyData.strOk y=true):cT (.str x) (.tup (ys.map D.str))=.ok (.bl (ys.any λy=>y==x)):=by
 u! cT;dsimp only;rw[ajH hx hy]
T! k_is(t:Tm):(t.k,t.rk)∈([("+",1),("-",1),("times",2),("num",3),("here",3),("back",3),("on",3),("ago",3),("until",3),("at",3),("abs",3)]:List (Str×Int)):=by
 cases t with
 |bin s x y=>c! s<;>repeat(first|~List.Mem.head _|r! List.Mem.tail _ ?_)
 |fZ w n=>
  S![Tm.k,Tm.rk];u! wd;split;·repeat(first|~List.Mem.head _|r! List.Mem.tail _ ?_)
  ·split
   ·repeat(first|~List.Mem.head _|r! List.Mem.tail _ ?_)
   ·split<;>repeat(first|~List.Mem.head _|r! List.Mem.tail _ ?_)
 |_=>repeat(first|~List.Mem.head _|r! List.Mem.tail _ ?_)
T! ab0(t:Tm):PyData.strOk t.k=true:=by
 h! h:=k_is t;h! al:∀p∈([("+",1),("-",1),("times",2),("num",3),("here",3),("back",3),("on",3),("ago",3),("until",3),("at",3),("abs",3)]:List (Str×Int)),PyData.strOk p.1=true:=by decide+kernel
 ~al _ h
T! yg(t:Tm):cT (.str t.k) (.tup [.str "+",.str "-"])=.ok (.bl (decide (t.rk<2))):=by
 h! h:=Lk (x:=t.k) (ys:=["+","-"]) (ab0 t) k?;h! al:∀p∈([("+",1),("-",1),("times",2),("num",3),("here",3),("back",3),("on",3),("ago",3),("until",3),("at",3),("abs",3)]:List (Str×Int)),((["+","-"]:List Str).any λy=>y==p.1)=decide (p.2<2):=by decide+kernel
 rw[al _ (k_is t)]at h;~h
T! akh(t:Tm):cT (.str t.k) (.tup [.str "+",.str "-",.str "times"])=.ok (.bl (decide (t.rk<3))):=by
 h! h:=Lk (x:=t.k) (ys:=["+","-","times"]) (ab0 t) k?;h! al:∀p∈([("+",1),("-",1),("times",2),("num",3),("here",3),("back",3),("on",3),("ago",3),("until",3),("at",3),("abs",3)]:List (Str×Int)),((["+","-","times"]:List Str).any λy=>y==p.1)=decide (p.2<3):=by decide+kernel
 rw[al _ (k_is t)]at h;~h
D! Tm.dp:Tm->Nat
 |.bin _ x y=>max x.dp y.dp+1
 |.times _ _ x=>x.dp+1
 |.abs x=>x.dp+1
 |_=>1
T! Tm.QS(t:Tm):t.dp<=t.sz:=by
 induction t with
 |bin s x y gW iI=>show max x.dp y.dp+1<=x.sz+y.sz+1;om
 |times p q x ih=>show x.dp+1<=x.sz+1;om
 |abs x ih=>show x.dp+1<=x.sz+1;om
 |_=>~Nat.le_refl _
T! Ls(t:Tm):∀x:Str,(t.k==x)=false->decide (t.k=x)=false:=λx h=>by
 apply decide_eq_false;intro w;rw[w]at h;simp at h
section
variable{Ft Fs Fj Ff:R!}{z:List Nat}
T! arn{p q:Int}(f:Ff [pr p q]=.ok (.str (aq z))):aL (jO a Ft Fs Fj Ff (aM 4 [(Tm.num p q).d]))=.ok (.str (aq z)):=by
 h! k:cT (.str (Str.ofString "num")) (.tup [.str (Str.ofString "+"),.str (Str.ofString "-")])=.ok (.bl false):=yg (.num p q);h! i0:L2.bN [D.str (Str.ofString "num"),pr p q] 0=some (.str (Str.ofString "num")):=rfl;h! i1:L2.bN [D.str (Str.ofString "num"),pr p q] 1=some (pr p q):=rfl;h! l2:2<=sizeLine:=by decide
 h! e1:decide (Str.ofString "num"=Str.ofString "times")=false:=by decide+kernel
 h! e2:decide (Str.ofString "num"=Str.ofString "abs")=false:=by decide+kernel
 show aL (jO a Ft Fs Fj Ff (aM 4 [.tup [.str (Str.ofString "num"),pr p q]]))=_;u! jO;iterate 9 (walk_at "den";try S![i0,i1,k,e1,e2,f,if_pos l2])
T! ark:aL (jO a Ft Fs Fj Ff (aM 4 [Tm.here.d]))=.ok (.str (aq (Tm.here.tx))):=by
 h! k:cT (.str (Str.ofString "here")) (.tup [.str (Str.ofString "+"),.str (Str.ofString "-")])=.ok (.bl false):=yg .here;h! i0:L2.bN [D.str (Str.ofString "here")] 0=some (.str (Str.ofString "here")):=rfl;h! l2:2<=sizeLine:=by decide
 h! e1:decide (Str.ofString "here"=Str.ofString "times")=false:=by decide+kernel
 h! e2:decide (Str.ofString "here"=Str.ofString "abs")=false:=by decide+kernel
 h! e3:decide (Str.ofString "here"=Str.ofString "num")=false:=by decide+kernel
 show aL (jO a Ft Fs Fj Ff (aM 4 [.tup [.str (Str.ofString "here")]]))=_;u! jO;iterate 9 (walk_at "den";try S![i0,k,e1,e2,e3,if_pos l2])
 rfl
T! afF{t:Tm}{y:D}{w:List Nat}(ht:t.d=.tup [.str t.k,y])(hr:¬t.rk<2)(ne:∀x∈(["times","abs","num","here"]:List Str),(t.k==x)=false)(f:du y=.ok (.str (aq w)))(hw:w.length<=1000):
    aL (jO a Ft Fs Fj Ff (aM 4 [t.d]))=.ok (.str (aq (az t.k++32::w))):=by
 h! k:cT (.str t.k) (.tup [.str (Str.ofString "+"),.str (Str.ofString "-")])=.ok (.bl (decide (t.rk<2))):=yg t;rw[decide_eq_false hr]at k;h! e1:decide (t.k=Str.ofString "times")=false:=Ls t _ (ne _ (by simp));h! e2:decide (t.k=Str.ofString "abs")=false:=Ls t _ (ne _ (by simp));h! e3:decide (t.k=Str.ofString "num")=false:=Ls t _ (ne _ (by simp));h! e4:decide (t.k=Str.ofString "here")=false:=Ls t _ (ne _ (by simp));h! lk:(az t.k).length<=10:=by
  h! al:∀p∈([("+",1),("-",1),("times",2),("num",3),("here",3),("back",3),("on",3),("ago",3),("until",3),("at",3),("abs",3)]:List (Str×Int)),(az p.1).length<=10:=by decide+kernel
  ~al _ (k_is t)
 h! mk:t.k=aq (az t.k):=(lO _).symm;rw[ht];generalize t.k=kk at*;h! i0:L2.bN [D.str kk,y] 0=some (.str kk):=rfl;h! i1:L2.bN [D.str kk,y] 1=some y:=rfl;h! l2:2<=sizeLine:=by decide
 h! s:∀ρ:Ev,(dC (.str (Str.ofString " "))) ρ=.ok (.str (aq [32])):=λ_=>rfl;h! v1:(d1 du &1) [.sh (.tup [.str kk,y]),.sh (.str kk),.no,.sh y]=.ok (.str (aq (az kk))):=by
  show du (.str kk)=_;rw[mk];~vY o?
 h! v3:(d1 du &3) [.sh (.tup [.str kk,y]),.sh (.str kk),.no,.sh y]=.ok (.str (aq w)):=f;h! j:((b8 (d1 du &1) (b8 #" " (b8 (d1 du &3) iV))) Str.empty) [.sh (.tup [.str kk,y]),.sh (.str kk),.no,.sh y]=.ok (.str (aq (az kk++32::w))):=by
  rw[em,jC v1 g!,jC (s _) g!,jC v3 g!,jN g!];simp
 u! jO;generalize((b8 (d1 du &1) (b8 #" " (b8 (d1 du &3) iV))) Str.empty)=jj at j⊢;iterate 9 (walk_at "den";try S![i0,i1,k,e1,e2,e3,e4,j,if_pos l2])
T! arj{s:Bool}{x y:Tm}{u v:List Nat}(f1:Fs [x.d]=.ok (.str (aq u)))(f2:Ft [y.d,.tup [.str (Str.ofString "+"),.str (Str.ofString "-")]]=.ok (.str (aq v)))(f3:Fj [.str (aq u),.str (sg s),.str (aq v)]=.ok (.str (aq z))):
    aL (jO a Ft Fs Fj Ff (aM 4 [(Tm.bin s x y).d]))=.ok (.str (aq z)):=by
 h! k:cT (.str (sg s)) (.tup [.str (Str.ofString "+"),.str (Str.ofString "-")])=.ok (.bl true):=yg (.bin s x y);h! i0:L2.bN [D.str (sg s),x.d,y.d] 0=some (.str (sg s)):=rfl;h! i1:L2.bN [D.str (sg s),x.d,y.d] 1=some x.d:=rfl;h! i2:L2.bN [D.str (sg s),x.d,y.d] 2=some y.d:=rfl;h! l2:2<=sizeLine:=by decide
 show aL (jO a Ft Fs Fj Ff (aM 4 [.tup [.str (sg s),x.d,y.d]]))=_;generalize sg s=ss at*;generalize x.d=xd at*;generalize y.d=yd at*;u! jO;iterate 9 (walk_at "den";try S![i0,i1,i2,k,f1,f2,f3,if_pos l2])
T! aro{p q:Int}{x:Tm}{u v:List Nat}(f1:Ff [pr p q]=.ok (.str (aq u)))(f2:Ft [x.d,.tup [.str (Str.ofString "+"),.str (Str.ofString "-"),.str (Str.ofString "times")]]=.ok (.str (aq v)))(f3:Fj [.str (aq u),.str (Str.ofString "*"),.str (aq v)]=.ok (.str (aq z))):
    aL (jO a Ft Fs Fj Ff (aM 4 [(Tm.times p q x).d]))=.ok (.str (aq z)):=by
 h! k:cT (.str (Str.ofString "times")) (.tup [.str (Str.ofString "+"),.str (Str.ofString "-")])=.ok (.bl false):=yg (.times p q x);h! i0:L2.bN [D.str (Str.ofString "times"),pr p q,x.d] 0=some (.str (Str.ofString "times")):=rfl;h! i1:L2.bN [D.str (Str.ofString "times"),pr p q,x.d] 1=some (pr p q):=rfl;h! i2:L2.bN [D.str (Str.ofString "times"),pr p q,x.d] 2=some x.d:=rfl;h! l2:2<=sizeLine:=by decide
 h! l3:3<=sizeLine:=by decide
 show aL (jO a Ft Fs Fj Ff (aM 4 [.tup [.str (Str.ofString "times"),pr p q,x.d]]))=_;generalize x.d=xd at*;u! jO;iterate 9 (walk_at "den";try S![i0,i1,i2,k,f1,f2,f3,if_pos l2,if_pos l3])
T! ari{x:Tm}(f1:Fs [x.d]=.ok (.str (aq z)))(hz:z.length<=20000):
    aL (jO a Ft Fs Fj Ff (aM 4 [(Tm.abs x).d]))=.ok (.str (aq ([97,98,115,40]++(z++[41])))):=by
 h! k:cT (.str (Str.ofString "abs")) (.tup [.str (Str.ofString "+"),.str (Str.ofString "-")])=.ok (.bl false):=yg (.abs x);h! i0:L2.bN [D.str (Str.ofString "abs"),x.d] 0=some (.str (Str.ofString "abs")):=rfl;h! i1:L2.bN [D.str (Str.ofString "abs"),x.d] 1=some x.d:=rfl;h! l2:2<=sizeLine:=by decide
 h! e1:decide (Str.ofString "abs"=Str.ofString "times")=false:=by decide+kernel
 show aL (jO a Ft Fs Fj Ff (aM 4 [.tup [.str (Str.ofString "abs"),x.d]]))=_;generalize x.d=xd at*;h! s1:∀ρ:Ev,(dC (.str (Str.ofString "abs("))) ρ=.ok (.str (aq [97,98,115,40])):=λ_=>rfl;h! s2:∀ρ:Ev,(dC (.str (Str.ofString ")"))) ρ=.ok (.str (aq [41])):=λ_=>rfl;h! v2:(d1 du &2) [.sh (.tup [.str (Str.ofString "abs"),xd]),.sh (.str (Str.ofString "abs")),.sh (.str (aq z)),.no]=.ok (.str (aq z)):=vY o?;h! j:((b8 #"abs(" (b8 (d1 du &2) (b8 #")" iV))) Str.empty) [.sh (.tup [.str (Str.ofString "abs"),xd]),.sh (.str (Str.ofString "abs")),.sh (.str (aq z)),.no]=.ok (.str (aq ([97,98,115,40]++(z++[41])))):=by
  rw[em,jC (s1 _) (by simp),jC v2 g!,jC (s2 _) g!,jN g!];simp
 u! jO;generalize((b8 #"abs(" (b8 (d1 du &2) (b8 #")" iV))) Str.empty)=jj at j⊢;iterate 9 (walk_at "den";try S![i0,i1,k,e1,f1,j,if_pos l2])
end
T! HF:∀(t:Tm),t.Ok->t.sz<=300->∀n,t.dp<=n->j7 (F0T a) n [t.d]=.ok (.str (aq t.tx))
 |t,hO,hs,0,hn=>by c! t<;>simp[Tm.dp]at hn
 |.num p q,hO,hs,n+1,hn=>by
  h! hO:Fq p q:=hO;~arn (SQ (a:=a) p q hO.q.1 (Nat.lt_of_lt_of_le hO.p d?) (Nat.lt_of_lt_of_le hO.q.2 d?))
 |.here,hO,hs,n+1,hn=>ark
 |.fZ w m,hO,hs,n+1,hn=>by
  h! hO':1<=m/\m<=9:=hO;h! hO:m.natAbs<10^9:=by om
  r! afF (t:=.fZ w m) (w:=dm m) rfl (by show¬(3:Int)<2;decide) (λx hx=>?_) (ajm (Nat.lt_of_lt_of_le hO d?)) (by h!:=yt hO;om);h! al:∀y∈(["back","on","ago","until"]:List Str),∀x∈(["times","abs","num","here"]:List Str),(y==x)=false:=by decide+kernel
  r! al (wd w) ?_ x hx;u! wd;split;·simp
  ·split
   ·simp
   ·split<;>simp
 |.at m,hO,hs,n+1,hn=>by
  h! hO:m.length<=8:=hO.1;r! afF (t:=.at m) (w:=m) rfl (by show¬(3:Int)<2;decide) (λx hx=>?_) (vY o?) o?;h! al:∀x∈(["times","abs","num","here"]:List Str),((Str.ofString "at")==x)=false:=by decide+kernel
  ~al x hx
 |.bin s x y,hO,hs,n+1,hn=>by
  h! hs:x.sz+y.sz+1<=300:=hs;h! hn:max x.dp y.dp+1<=n+1:=hn;h! l1:=Tm.len hO.1;h! l2:=Tm.len hO.2;h! b:=jz 40 41 (decide (y.rk<2)) y.tx;h! h1:=HF x hO.1 o? n o?;h! h2:=HF y hO.2 o? n o?;r! arj h1 (acA h2 o? (yg y)) ?_;h! j:=Gz (a:=a) (x:=x.tx) (y:=az (sg s)) (z:=brk 40 41 (decide (y.rk<2)) y.tx) o? (by rw[Wu];om) o?;rw[lO]at j;~j
 |.times p q x,hO,hs,n+1,hn=>by
  h! hs:x.sz+1<=300:=hs;h! hn:x.dp+1<=n+1:=hn;h! l1:=Cm hO.1;h! l2:=Tm.len hO.2;h! b:=jz 40 41 (decide (x.rk<3)) x.tx;h! h2:=HF x hO.2 o? n o?;h! f:=SQ (a:=a) p q hO.1.q.1 (Nat.lt_of_lt_of_le hO.1.p d?) (Nat.lt_of_lt_of_le hO.1.q.2 d?);~aro f (acA h2 o? (akh x)) (Gz (a:=a) (x:=cB p q) (y:=[42]) (z:=brk 40 41 (decide (x.rk<3)) x.tx) o? (by simp) o?)
 |.abs x,hO,hs,n+1,hn=>by
  h! hs:x.sz+1<=300:=hs;h! hn:x.dp+1<=n+1:=hn;h! l2:=Tm.len (t:=x) hO;~ari (HF x hO o? n o?) o?
inductive Cn where
 |cmp(s:Bool)(x y:Tm)|not(c:Cn)|two(s:Bool)(c d:Cn)
D! cg(s:Bool):Str:=if s=true then"<" else"="
D! cw(s:Bool):Str:=if s=true then"and" else"or"
D! Cn.k:Cn->Str
 |.cmp s _ _=>cg s
 |.not _=>"not"
 |.two s _ _=>cw s
D! Cn.d:Cn->D
 |.cmp s x y=>.tup [.str (cg s),x.d,y.d]
 |.not c=>.tup [.str "not",c.d]
 |.two s c e=>.tup [.str (cw s),c.d,e.d]
D! Cn.rk:Cn->Int
 |.cmp _ _ _=>4
 |.not _=>3
 |.two s _ _=>if s=true then 2 else 1
D! Cn.tx:Cn->List Nat
 |.cmp s x y=>x.tx++32::(az (cg s)++32::y.tx)
 |.not c=>[110,111,116,32]++brk 91 93 (decide (c.rk<3)) c.tx
 |.two s c e=>brk 91 93 (decide (c.rk<if s=true then 2 else 1)) c.tx++32::(az (cw s)++32::brk 91 93 (decide (e.rk<if s=true then 3 else 2)) e.tx)
D! Cn.sz:Cn->Nat
 |.cmp _ x y=>x.sz+y.sz+1
 |.not c=>c.sz+1
 |.two _ c e=>c.sz+e.sz+1
D! Cn.dp:Cn->Nat
 |.cmp _ _ _=>1
 |.not c=>c.dp+1
 |.two _ c e=>max c.dp e.dp+1
D! Cn.tm:Cn->Nat
 |.cmp _ x y=>max x.sz y.sz
 |.not c=>c.tm
 |.two _ c e=>max c.tm e.tm
D! Cn.Ok:Cn->Prop
 |.cmp _ x y=>x.Ok/\y.Ok
 |.not c=>c.Ok
 |.two _ c e=>c.Ok/\e.Ok
T! JH(s:Bool):(az (cg s)).length=1:=by c! s<;>decide
T! QG(s:Bool):(az (cw s)).length<=3:=by c! s<;>decide
T! Cn.len:∀{c:Cn},c.Ok->c.tx.length<=40*c.sz
 |.cmp s x y,h=>by
  h! h1:=Tm.len h.1;h! h2:=Tm.len h.2;h! h3:=JH s;show(x.tx++32::(az (cg s)++32::y.tx)).length<=40*(x.sz+y.sz+1);S![List.length_append,List.length_cons];om
 |.not c,h=>by
  h! h1:=Cn.len (c:=c) h;h! h2:=jz 91 93 (decide (c.rk<3)) c.tx;show([110,111,116,32]++brk 91 93 (decide (c.rk<3)) c.tx).length<=40*(c.sz+1);S![List.length_append,List.length_cons,List.length_nil];om
 |.two s c e,h=>by
  h! h1:=Cn.len h.1;h! h2:=Cn.len h.2;h! h3:=QG s;h! h4:=jz 91 93 (decide (c.rk<if s=true then 2 else 1)) c.tx;h! h5:=jz 91 93 (decide (e.rk<if s=true then 3 else 2)) e.tx;show(brk 91 93 (decide (c.rk<if s=true then 2 else 1)) c.tx++32::(az (cw s)++32::brk 91 93 (decide (e.rk<if s=true then 3 else 2)) e.tx)).length<=40*(c.sz+e.sz+1);S![List.length_append,List.length_cons];om
T! Cn.d0(c:Cn):∃r,c.d=.tup (.str c.k::r):=by c! c<;>~\(_,rfl)
T! Cn.QS(c:Cn):c.dp<=c.sz:=by
 induction c with
 |cmp s x y=>show 1<=x.sz+y.sz+1;om
 |not c ih=>show c.dp+1<=c.sz+1;om
 |two s c e gW iI=>show max c.dp e.dp+1<=c.sz+e.sz+1;om
T! Cn.aru(c:Cn):c.tm<=c.sz:=by
 induction c with
 |cmp s x y=>show max x.sz y.sz<=x.sz+y.sz+1;om
 |not c ih=>show c.tm<=c.sz+1;om
 |two s c e gW iI=>show max c.tm e.tm<=c.sz+e.sz+1;om
T! LK{Fs:R!}{c:Cn}{L:D}{b:Bool}(h:Fs [c.d]=.ok (.str (aq c.tx)))(hl:c.tx.length<=20000)(hb:cT (.str c.k) L=.ok (.bl b)):
    aL (Es a Fs (aM 3 [c.d,L]))=.ok (.str (aq (brk 91 93 b c.tx))):=by
 o!⟨r,e⟩:=c.d0;rw[e]at h⊢;generalize c.tx=tx at*;generalize c.k=ck at*;h! Gs:L2.bN (D.str ck::r) ((0:Nat):Int)=some (.str ck):=vM rfl;h! i0:L2.bN (D.str ck::r) 0=some (.str ck):=Gs;h! s1:(dC (.str (Str.ofString "["))) [.sh (.tup (.str ck::r)),.sh L,.sh (.str (aq tx))]=.ok (.str (aq [91])):=rfl;h! s2:(dC (.str (Str.ofString "]"))) [.sh (.tup (.str ck::r)),.sh L,.sh (.str (aq tx))]=.ok (.str (aq [93])):=rfl;h! v2:(d1 du &2) [.sh (.tup (.str ck::r)),.sh L,.sh (.str (aq tx))]=.ok (.str (aq tx)):=vY o?;h! ik:(P2.b1 tB (d2 cT (d2 aO &0 #0) &1)) [.sh (.tup (.str ck::r)),.sh L,.sh (.str (aq tx))]=.ok b:=by
  iterate 4 (walk_at "den";try S![i0,hb])
 u! Es;generalize(P2.b1 tB (d2 cT (d2 aO &0 #0) &1))=tt at ik⊢;h! j:((b8 #"[" (b8 (d1 du &2) (b8 #"]" iV))) Str.empty) [.sh (.tup (.str ck::r)),.sh L,.sh (.str (aq tx))]=.ok (.str (aq (91::(tx++[93])))):=by
  rw[em,jC s1 (by simp),jC v2 g!,jC s2 g!,jN g!];rfl
 generalize((b8 #"[" (b8 (d1 du &2) (b8 #"]" iV))) Str.empty)=jj at j⊢;cases b with
 |true=>iterate 7 (walk_at "den";try S![h,ik,j]);try rfl
 |false=>iterate 7 (walk_at "den";try S![h,ik,j]);try rfl
T! R9(c:Cn):(c.k,c.rk)∈([("<",4),("=",4),("not",3),("and",2),("or",1)]:List (Str×Int)):=by
 cases c with
 |cmp s x y=>c! s<;>simp[Cn.k,Cn.rk,cg]
 |not c=>simp[Cn.k,Cn.rk]
 |two s x y=>c! s<;>simp[Cn.k,Cn.rk,cw]
T! ab1(c:Cn):PyData.strOk c.k=true:=by
 h! al:∀p∈([("<",4),("=",4),("not",3),("and",2),("or",1)]:List (Str×Int)),PyData.strOk p.1=true:=by decide+kernel
 ~al _ (R9 c)
T! abR(c:Cn):cT (.str c.k) (.tup [.str "or"])=.ok (.bl (decide (c.rk<2))):=by
 h! h:=Lk (x:=c.k) (ys:=["or"]) (ab1 c) k?;h! al:∀p∈([("<",4),("=",4),("not",3),("and",2),("or",1)]:List (Str×Int)),((["or"]:List Str).any λy=>y==p.1)=decide (p.2<2):=by decide+kernel
 rw[al _ (R9 c)]at h;~h
T! abQ(c:Cn):cT (.str c.k) (.tup [.str "or",.str "and"])=.ok (.bl (decide (c.rk<3))):=by
 h! h:=Lk (x:=c.k) (ys:=["or","and"]) (ab1 c) k?;h! al:∀p∈([("<",4),("=",4),("not",3),("and",2),("or",1)]:List (Str×Int)),((["or","and"]:List Str).any λy=>y==p.1)=decide (p.2<3):=by decide+kernel
 rw[al _ (R9 c)]at h;~h
T! apj(c:Cn):¬c.rk<1:=by
 cases c with
 |cmp s x y=>show¬(4:Int)<1;decide
 |not c=>show¬(3:Int)<1;decide
 |two s x y=>show¬(if s=true then(2:Int)else 1)<1;split<;>decide
section
variable{Fb Fs Fj Ft:R!}{z:List Nat}
T! ah9{c e:Cn}{u v:List Nat}(f1:Fs [c.d]=.ok (.str (aq u)))(f2:Fb [e.d,.tup [.str (Str.ofString "or")]]=.ok (.str (aq v)))(f3:Fj [.str (aq u),.str (Str.ofString "or"),.str (aq v)]=.ok (.str (aq z))):
    aL (mW a Fb Fs Fj Ft (aM 2 [(Cn.two false c e).d]))=.ok (.str (aq z)):=by
 h! i0:L2.bN [D.str (Str.ofString "or"),c.d,e.d] 0=some (.str (Str.ofString "or")):=rfl;h! i1:L2.bN [D.str (Str.ofString "or"),c.d,e.d] 1=some c.d:=rfl;h! i2:L2.bN [D.str (Str.ofString "or"),c.d,e.d] 2=some e.d:=rfl;h! l1:1<=sizeLine:=by decide
 show aL (mW a Fb Fs Fj Ft (aM 2 [.tup [.str (Str.ofString "or"),c.d,e.d]]))=_;generalize c.d=cd at*;generalize e.d=ed at*;u! mW;iterate 9 (walk_at "den";try S![i0,i1,i2,f1,f2,f3,if_pos l1])
T! ah6{c e:Cn}{u v:List Nat}(f1:Fb [c.d,.tup [.str (Str.ofString "or")]]=.ok (.str (aq u)))(f2:Fb [e.d,.tup [.str (Str.ofString "or"),.str (Str.ofString "and")]]=.ok (.str (aq v)))(f3:Fj [.str (aq u),.str (Str.ofString "and"),.str (aq v)]=.ok (.str (aq z))):
    aL (mW a Fb Fs Fj Ft (aM 2 [(Cn.two true c e).d]))=.ok (.str (aq z)):=by
 h! i0:L2.bN [D.str (Str.ofString "and"),c.d,e.d] 0=some (.str (Str.ofString "and")):=rfl;h! i1:L2.bN [D.str (Str.ofString "and"),c.d,e.d] 1=some c.d:=rfl;h! i2:L2.bN [D.str (Str.ofString "and"),c.d,e.d] 2=some e.d:=rfl;h! l1:1<=sizeLine:=by decide
 h! l2:2<=sizeLine:=by decide
 h! e1:decide (Str.ofString "and"=Str.ofString "or")=false:=by decide+kernel
 show aL (mW a Fb Fs Fj Ft (aM 2 [.tup [.str (Str.ofString "and"),c.d,e.d]]))=_;generalize c.d=cd at*;generalize e.d=ed at*;u! mW;iterate 9 (walk_at "den";try S![i0,i1,i2,e1,f1,f2,f3,if_pos l1,if_pos l2])
T! ah8{c:Cn}{u:List Nat}(f1:Fb [c.d,.tup [.str (Str.ofString "or"),.str (Str.ofString "and")]]=.ok (.str (aq u)))(hu:u.length<=30000):
    aL (mW a Fb Fs Fj Ft (aM 2 [(Cn.not c).d]))=.ok (.str (aq ([110,111,116,32]++u))):=by
 h! i0:L2.bN [D.str (Str.ofString "not"),c.d] 0=some (.str (Str.ofString "not")):=rfl;h! i1:L2.bN [D.str (Str.ofString "not"),c.d] 1=some c.d:=rfl;h! l2:2<=sizeLine:=by decide
 h! e1:decide (Str.ofString "not"=Str.ofString "or")=false:=by decide+kernel
 h! e2:decide (Str.ofString "not"=Str.ofString "and")=false:=by decide+kernel
 h! ad:aP (.str (Str.ofString "not ")) (.str (aq u))=.ok (.str (aq ([110,111,116,32]++u))):=gj (x:=[110,111,116,32]) (by simp) o?;show aL (mW a Fb Fs Fj Ft (aM 2 [.tup [.str (Str.ofString "not"),c.d]]))=_;generalize c.d=cd at*;u! mW;generalize aP=pZ at*;iterate 9 (walk_at "den";try S![i0,i1,e1,e2,f1,ad,if_pos l2])
T! ah7{s:Bool}{x y:Tm}{u v:List Nat}(f1:Ft [x.d]=.ok (.str (aq u)))(f2:Ft [y.d]=.ok (.str (aq v)))(f3:Fj [.str (aq u),.str (cg s),.str (aq v)]=.ok (.str (aq z))):
    aL (mW a Fb Fs Fj Ft (aM 2 [(Cn.cmp s x y).d]))=.ok (.str (aq z)):=by
 h! i0:L2.bN [D.str (cg s),x.d,y.d] 0=some (.str (cg s)):=rfl;h! i1:L2.bN [D.str (cg s),x.d,y.d] 1=some x.d:=rfl;h! i2:L2.bN [D.str (cg s),x.d,y.d] 2=some y.d:=rfl;h! e1:decide (cg s=Str.ofString "or")=false:=by c! s<;>decide+kernel
 h! e2:decide (cg s=Str.ofString "and")=false:=by c! s<;>decide+kernel
 h! e3:decide (cg s=Str.ofString "not")=false:=by c! s<;>decide+kernel
 show aL (mW a Fb Fs Fj Ft (aM 2 [.tup [.str (cg s),x.d,y.d]]))=_;generalize x.d=xd at*;generalize y.d=yd at*;generalize cg s=ss at*;u! mW;iterate 9 (walk_at "den";try S![i0,i1,i2,e1,e2,e3,f1,f2,f3])
end
D! F0C(a:Ad)(Ft Fs:R!):R!:=λds=>aL (mW a (λds=>aL (Es a Fs (aM 3 ds))) Fs (λds=>aL (Er a (aM 3 ds))) Ft (aM 2 ds))
T! Cp{Ft:R!}{m:Nat}(hT:∀t:Tm,t.Ok->t.sz<=m->Ft [t.d]=.ok (.str (aq t.tx))):∀(c:Cn),c.Ok->c.sz<=300->c.tm<=m->∀n,c.dp<=n->j7 (F0C a Ft) n [c.d]=.ok (.str (aq c.tx))
 |c,hO,hs,hm,0,hn=>by c! c<;>simp[Cn.dp]at hn
 |.cmp s x y,hO,hs,hm,n+1,hn=>by
  h! hs:x.sz+y.sz+1<=300:=hs;h! hm:max x.sz y.sz<=m:=hm;h! l1:=Tm.len hO.1;h! l2:=Tm.len hO.2;r! ah7 (hT x hO.1 o?) (hT y hO.2 o?) ?_;h! j:=Gz (a:=a) (x:=x.tx) (y:=az (cg s)) (z:=y.tx) o? (by rw[JH];om) o?;rw[lO]at j;~j
 |.not c,hO,hs,hm,n+1,hn=>by
  h! hs:c.sz+1<=300:=hs;h! hn:c.dp+1<=n+1:=hn;h! l1:=Cn.len (c:=c) hO;h! b:=jz 91 93 (decide (c.rk<3)) c.tx;~ah8 (LK (Cp hT c hO o? hm n o?) o? (abQ c)) o?
 |.two true c e,hO,hs,hm,n+1,hn=>by
  h! hs:c.sz+e.sz+1<=300:=hs;h! hn:max c.dp e.dp+1<=n+1:=hn;h! hm:max c.tm e.tm<=m:=hm;h! l1:=Cn.len hO.1;h! l2:=Cn.len hO.2;h! b1:=jz 91 93 (decide (c.rk<2)) c.tx;h! b2:=jz 91 93 (decide (e.rk<3)) e.tx;~ah6 (LK (Cp hT c hO.1 o? o? n o?) o? (abR c)) (LK (Cp hT e hO.2 o? o? n o?) o? (abQ e)) (Gz (a:=a) (x:=brk 91 93 (decide (c.rk<2)) c.tx) (y:=az (Str.ofString "and")) (z:=brk 91 93 (decide (e.rk<3)) e.tx) o? d? o?)
 |.two false c e,hO,hs,hm,n+1,hn=>by
  h! hs:c.sz+e.sz+1<=300:=hs;h! hn:max c.dp e.dp+1<=n+1:=hn;h! hm:max c.tm e.tm<=m:=hm;h! l1:=Cn.len hO.1;h! l2:=Cn.len hO.2;h! b2:=jz 91 93 (decide (e.rk<2)) e.tx;h! r:=apj c;h! eb:brk 91 93 (decide (c.rk<1)) c.tx=c.tx:=by u! brk;rw[decide_eq_false r];rfl
  h! j:=Gz (a:=a) (x:=c.tx) (y:=az (Str.ofString "or")) (z:=brk 91 93 (decide (e.rk<2)) e.tx) o? d? o?;h! tx:(Cn.two false c e).tx=c.tx++32::(az (Str.ofString "or")++32::brk 91 93 (decide (e.rk<2)) e.tx):=by
   show brk 91 93 (decide (c.rk<1)) c.tx++_=_;rw[eb];rfl
  rw[tx];~ah9 (Cp hT c hO.1 o? o? n o?) (LK (Cp hT e hO.2 o? o? n o?) o? (abR e)) j
D! jD:Tm->Nat
 |.bin _ x y=>jD x+jD y
 |.times _ _ x=>jD x+1
 |.abs x=>jD x+1
 |_=>0
D! gQ:Cn->Nat
 |.cmp _ x y=>jD x+jD y
 |.not c=>gQ c
 |.two _ c e=>gQ c+gQ e
T! anD{t:Tm}(h:t.sz=1):jD t=0:=by
 cases t with
 |bin s x y=>have:=x.pos;h!:=y.pos;h! h':x.sz+y.sz+1=1:=h;om
 |times p q x=>have:=x.pos;h! h':x.sz+1=1:=h;om
 |abs x=>have:=x.pos;h! h':x.sz+1=1:=h;om
 |_=>rfl
end WC
namespace WS
open PySem L2 P2 WP TM T2 PySem.NumText WR WC
D! dF(o c:Tk)(b:Bool)(x:List Tk):List Tk:=if b=true then o::(x++[c])else x
D! cA:Tm->List Tk
 |.num p q=>[cB p q]
 |.here=>[az "here"]
 |.fZ w n=>[az (wd w),dm n]
 |.at m=>[az "at",m]
 |.bin s x y=>cA x++az (sg s)::dF [40] [41] (decide (y.rk<2)) (cA y)
 |.times p q x=>cB p q::[42]::dF [40] [41] (decide (x.rk<3)) (cA x)
 |.abs x=>az "abs"::[40]::(cA x++[[41]])
D! eV:Tm->Nat
 |.bin _ x y=>max (eV x) (eV y+if y.rk<2 then 1 else 0)
 |.times _ _ x=>eV x+if x.rk<3 then 1 else 0
 |.abs x=>eV x+1
 |_=>0
D! lq:Tm->Prop
 |.at m=>TR.kh m=true
 |.bin _ x y=>lq x/\lq y
 |.times _ _ x=>lq x
 |.abs x=>lq x
 |_=>True
D! oZ:Tm->Nat
 |.bin _ x _=>oZ x+1
 |_=>0
T! akM(t:Tm):oZ t<=t.sz:=by
 induction t with
 |bin s x y gW iI=>show oZ x+1<=x.sz+y.sz+1;om
 |_=>~Nat.zero_le _
T! al7(n:Nat):∃c r,num n=c::r/\48<=c/\c<=57:=by
 cases e:num n with
 |nil=>~absurd e (GX n)
 |cons c r=>~\(c,r,rfl,GR n c (by rw[e];~List.mem_cons_self ..))
T! Cj{p q:Int}(h:Fq p q):∃c r,cB p q=c::r/\48<=c/\c<=57:=by
 h! hn:dm p=num p.natAbs:=by
  u! dm;rw[if_neg (by h!:=h.nn;om)]
 o!⟨c,r,e,hc⟩:=al7 p.natAbs;u! cB;rw[hn,e];split;·~\(c,r,rfl,hc)
 ·~\(c,_,rfl,hc)
T! aa7{c d:Nat}{r s:List Nat}(h:c≠d):aQ (c::r) (d::s)=false:=by
 u! aQ;rw[show Nat.beq c d=false from by rw[<-Bool.not_eq_true,Nat.beq_eq];~h];rfl
T! mq{t:Tk}{c d:Nat}{r s:List Nat}(e:t=c::r)(hc:48<=c/\c<=57)(hd:d<48\/57<d):aQ t (d::s)=false:=by
 subst e;~aa7 o?
T! afo{p q:Int}(h:Fq p q):pQ (cB p q)=some (p,q):=by
 u! pQ;rw[ape \(h.low,Nat.lt_of_lt_of_le h.p d?,Nat.lt_of_lt_of_le h.q.2 d?)];h! h1:=h.p;h! h2:=h.q;dsimp only;rw[if_pos \(o?,o?)]
T! arS{n:Int}(h:1<=n/\n<=9):wW (dm n) 1 9=some n.toNat:=by
 h!:n=1\/n=2\/n=3\/n=4\/n=5\/n=6\/n=7\/n=8\/n=9:=by om
 rcases this with rfl|rfl|rfl|rfl|rfl|rfl|rfl|rfl|rfl<;>decide+kernel
T! JW(t:Tk):aQ t t=true:=(oU t t).mpr rfl
T! arO(w:Nat):Bx.any (aQ (az (wd w)))=true/\aQ (az (wd w)) [104,101,114,101]=false/\aQ (az (wd w)) [40]=false:=by
 u! wd;split;·decide
 ·split
  ·decide
  ·split<;>decide
D! nS(r:List Tk):Prop:=aQ (nx r) [42]=false
D! nM(r:List Tk):Prop:=aQ (nx r) [42]=false/\[[43],[45]].any (aQ (nx r))=false
T! rN{k:Nat}{f:Nat->Pr}(h:k<=29):bg k f=f (k+1):=by
 u! bg;rw[Nat.ble_eq_true_of_le h];rfl
T! aa5{t:Tk}{r:List Tk}{b:Nat}{f:List Tk->Nat->Pr}(h:b<=15):en t (t::r) b f=f r (b+1):=by
 u! en tk;show(bif aQ t t then(bif Nat.ble b 15 then f r (b+1)else .no)else .no)=_;rw[JW,Nat.ble_eq_true_of_le h];rfl
T! acv{t:Tk}{d:D}{r:List Tk}{k b:Nat}:lv t d (t::r) k (b+1)=.ok d r k b:=by
 u! lv tk;show(bif aQ t t then Pr.ok d r k b else .no)=_;rw[JW];rfl
T! zx{α:Type}(x:List α)(c:α)(r:List α):x++[c]++r=x++c::r:=by simp
T! afG{t:Tm}(h:t.Ok)(kw:lq t)(r:List Tk):aQ (nx (cA t++r)) [42]=false/\(t.rk=3->nS r->aQ (nx (cA t++r).tail) [42]=false)/\aQ (nx (cA t++r)) [41]=false:=by
 induction t generalizing r with
 |num p q=>
  o!⟨c,s,e,hc⟩:=Cj h;~\(mq e hc (.inl d?),λ_ z=>z,mq e hc (.inl d?))
 |here=>~\((show aQ (az "here") [42]=false by decide),λ_ z=>z,(show aQ (az "here") [41]=false by decide))
 |fZ w n=>
  h! h':1<=n/\n<=9:=h;r!\(?_,λ_ _=>?_,?_)
  ·show aQ (az (wd w)) [42]=false
   u! wd;split;·decide
   ·split
    ·decide
    ·split<;>decide
  ·show aQ (dm n) [42]=false
   h!:n=1\/n=2\/n=3\/n=4\/n=5\/n=6\/n=7\/n=8\/n=9:=by om
   rcases this with rfl|rfl|rfl|rfl|rfl|rfl|rfl|rfl|rfl<;>decide+kernel
  ·show aQ (az (wd w)) [41]=false
   u! wd;split;·decide
   ·split
    ·decide
    ·split<;>decide
 |«at» m=>
  h! hm:TR.kh m=true:=kw;o!⟨h1,h2,h3,h4⟩:=TR.agJ hm;r!\((show aQ (az "at") [42]=false by decide),λ_ _=>?_,(show aQ (az "at") [41]=false by decide));show aQ m [42]=false;cases m with
  |nil=>~absurd rfl h1
  |cons c s=>~aa7 (by h!:=h3 c (List.mem_cons_self ..);om)
 |bin s x y gW iI=>
  h!:=gW h.1 kw.1 (az (sg s)::dF [40] [41] (decide (y.rk<2)) (cA y)++r);h! e:cA (.bin s x y)++r=cA x++(az (sg s)::dF [40] [41] (decide (y.rk<2)) (cA y)++r):=by
   show(cA x++az (sg s)::dF [40] [41] (decide (y.rk<2)) (cA y))++r=_;rw[List.append_assoc]
  rw[e];~\(this.1,λz=>(by c! z),this.2.2)
 |times p q x ih=>
  o!⟨c,s,e,hc⟩:=Cj h.1;~\(mq e hc (.inl d?),λz=>(by c! z),mq e hc (.inl d?))
 |abs x ih=>~\((show aQ (az "abs") [42]=false by decide),λ_ _=>(show aQ [40] [42]=false by decide),(show aQ (az "abs") [41]=false by decide))
T! Wv(s:Bool):[[43],[45]].any (aQ (az (sg s)))=true/\aQ (az (sg s)) [42]=false/\tS (az (sg s))=.str (sg s):=by
 c! s;·~\(d?,d?,congrArg D.str (lO _))
 ·~\(d?,d?,congrArg D.str (lO _))
T! rO{d:D}{r:List Tk}{k b:Nat}{f:D->PF}:fU (.ok d r k b) f=f d r k b:=rfl
T! aje(n:Nat):(f0 (n+1)).pr=uH (f0 n).sg:=rfl
T! ajf(n:Nat):(f0 (n+1)).sg=wD (f0 n).br:=rfl
T! ajd(n:Nat):(f0 (n+1)).br=Bt (f0 n).su:=rfl
T! ac1{n:Nat}{x:List Tk}{d:D}{r:List Tk}{k k' b:Nat}(hb:b<=15)(h:(f0 n).su (x++[41]::r) k (b+1)=.ok d ([41]::r) k' (b+1)):(f0 (n+1)).br ([40]::(x++[[41]])++r) k b=.ok d r k' b:=by
 rw[ajd];u! Bt;rw[show[40]::(x++[[41]])++r=[40]::(x++[41]::r)by simp,aa5 hb,h,rO,acv]
T! ac2{n:Nat}{x:List Tk}{d:D}{r:List Tk}{k k' b:Nat}(hb:b<=15)(h:(f0 n).su (x++[41]::r) k (b+1)=.ok d ([41]::r) k' (b+1)):(f0 (n+2)).sg ([40]::(x++[[41]])++r) k b=.ok d r k' b:=by
 rw[show n+2=(n+1)+1 from rfl,ajf];u! wD;rw[show aQ (nx ([40]::(x++[[41]])++r)) [40]=true from rfl,cond_true,ac1 hb h]
D! SG(t:Tm):Prop:=∀(r:List Tk) (k b n:Nat),t.rk=3->k+t.sz<=30->b+eV t<=16->4*eV t+1<=n->(f0 n).sg (cA t++r) k b=.ok t.d r (k+t.sz) b
D! PR(t:Tm):Prop:=∀(r:List Tk) (k b n:Nat),2<=t.rk->k+t.sz<=30->b+eV t<=16->4*eV t+2<=n->nS r->(f0 n).pr (cA t++r) k b=.ok t.d r (k+t.sz) b
D! LP(t:Tm):Prop:=∀(r:List Tk) (k b n m:Nat),k+t.sz<=30->b+eV t<=16->4*eV t+2<=n->nS r->
    fU ((f0 n).pr (cA t++r) k b) (λd r k b=>o4 (f0 n).pr (m+oZ t) d r k b)=o4 (f0 n).pr m t.d r (k+t.sz) b
D! SU(t:Tm):Prop:=∀(r:List Tk) (k b n:Nat),k+t.sz<=30->b+eV t<=16->4*eV t+3<=n->nM r->(f0 n).su (cA t++r) k b=.ok t.d r (k+t.sz) b
T! aqc{t:Tm}(h:t.Ok)(kw:lq t)(IH:∀x:Tm,x.sz<t.sz->x.Ok->lq x->SU x):SG t:=by
 intro r k b n h3 hk hb hn;obtain⟨n,rfl⟩:∃m,n=m+1:=\(n - 1,o?);show wD (f0 n).br (cA t++r) k b=_;u! wD;h! kp:k<=29:=by h!:=t.pos;om
 cases t with
 |bin s x y=>~absurd (show(1:Int)=3 from h3) d?
 |times p q x=>~absurd (show(2:Int)=3 from h3) d?
 |num p q=>
  o!⟨c,s,e,hc⟩:=Cj h;h! e1:aQ (nx (cA (.num p q)++r)) [40]=false:=mq e hc (.inl d?);h! e2:aQ (cB p q) [104,101,114,101]=false:=mq e hc (.inr d?);h! e3:Bx.any (aQ (cB p q))=false:=by
   u! Bx;S![List.any_cons,List.any_nil,mq e hc (.inr (show 57<98 by decide)),mq e hc (.inr (show 57<111 by decide)),mq e hc (.inr (show 57<97 by decide)),mq e hc (.inr (show 57<117 by decide)),Bool.or_false]
  h! e4:aQ (cB p q) [97,116]=false:=mq e hc (.inr d?);h! e5:aQ (cB p q) [97,98,115]=false:=mq e hc (.inr d?);rw[e1,cond_false,rN kp];show(bif aQ (cB p q) [104,101,114,101]then _ else _)=_;rw[e2,cond_false,e3,cond_false,e4,cond_false,e5,cond_false,afo h];rfl
 |here=>
  rw[show aQ (nx (cA .here++r)) [40]=false from(show aQ (az "here") [40]=false by decide),cond_false,rN kp];rfl
 |fZ w v=>
  o!⟨e1,e2,e3⟩:=arO w;h! h':1<=v/\v<=9:=h;rw[show aQ (nx (cA (.fZ w v)++r)) [40]=false from e3,cond_false,rN kp];show(bif aQ (az (wd w)) [104,101,114,101]then _ else _)=_;rw[e2,cond_false,e1,cond_true];show opt (wW (dm v) 1 9) _=_;rw[arS h'];h!:((v.toNat:Nat):Int)=v:=by om
  show Pr.ok (.tup [.str (aq (az (wd w))),.int ((v.toNat:Nat):Int)]) r (k+1) b=_;rw[this,lO];rfl
 |«at» m=>
  h! hm:TR.kh m=true:=kw;h! e:(bif TR.kh m then Pr.ok (.tup [.str "at",tS m]) r (k+1) b else .no)=.ok (Tm.at m).d r (k+(Tm.at m).sz) b:=by rw[hm];rfl
  rw[show aQ (nx (cA (.at m)++r)) [40]=false from(show aQ (az "at") [40]=false by decide),cond_false,rN kp];~e
 |abs x=>
  h! uv:k+(x.sz+1)<=30:=hk;h! hb':b+(eV x+1)<=16:=hb;h! v7:4*(eV x+1)+1<=n+1:=hn;obtain⟨n,rfl⟩:∃m,n=m+1:=\(n - 1,o?);h! hs:=IH x (Nat.lt_succ_self _) h kw ([41]::r) (k+1) (b+1) n o? o? o? \(rfl,rfl);h! e:jR (λd=>.tup [.str "abs",d]) ((f0 (n+1)).br ([40]::(cA x++[[41]])++r) (k+1) b)=.ok (Tm.abs x).d r (k+(Tm.abs x).sz) b:=by
   rw[ac1 o? hs];show Pr.ok _ r (k+1+x.sz) b=Pr.ok _ r (k+(x.sz+1)) b;rw[show k+1+x.sz=k+(x.sz+1)by om];rfl
  rw[show aQ (nx (cA (.abs x)++r)) [40]=false from(show aQ (az "abs") [40]=false by decide),cond_false,rN kp];~e
T! aoo{t:Tm}(h:t.Ok)(kw:lq t)(gs:SG t)(IH:∀x:Tm,x.sz<t.sz->x.Ok->lq x->SU x/\SG x):PR t:=by
 intro r k b n h2 hk hb hn hr;obtain⟨n,rfl⟩:∃m,n=m+1:=\(n - 1,o?);show uH (f0 n).sg (cA t++r) k b=_;u! uH;by_cases h3:t.rk=3
 ·rw[(afG h kw r).2.1 h3 hr,cond_false]
  ~gs r k b n h3 hk hb o?
 ·cases t with
  |bin s x y=>~absurd (show(2:Int)<=1 from h2) d?
  |num p q=>~absurd rfl h3
  |here=>~absurd rfl h3
  |fZ w v=>~absurd rfl h3
  |«at» m=>~absurd rfl h3
  |abs x=>~absurd rfl h3
  |times p q x=>
   h! uv:k+(x.sz+1)<=30:=hk;h! hp:=x.pos;h! fin:(f0 n).sg (dF [40] [41] (decide (x.rk<3)) (cA x)++r) (k+1) b=.ok x.d r (k+1+x.sz) b:=by
    by_cases hx:x.rk<3
    ·h! e1:eV (.times p q x)=eV x+1:=by show eV x+(if x.rk<3 then 1 else 0)=_;rw[if_pos hx]
     rw[e1]at hb hn;rw[decide_eq_true hx];obtain⟨n,rfl⟩:∃m,n=m+2:=\(n - 2,o?);~ac2 o? ((IH x (Nat.lt_succ_self _) h.2 kw).1 ([41]::r) (k+1) (b+1) n o? o? o? \(rfl,rfl))
    ·h! e0:eV (.times p q x)=eV x:=by show eV x+(if x.rk<3 then 1 else 0)=_;rw[if_neg hx];rfl
     rw[e0]at hb hn;rw[decide_eq_false hx];h! h3:x.rk=3:=by
      c! x<;>first|rfl|~absurd (show(1:Int)<3 by decide) hx|~absurd (show(2:Int)<3 by decide) hx
     ~(IH x (Nat.lt_succ_self _) h.2 kw).2 r (k+1) b n h3 o? hb o?
   h! e:opt (pQ (cB p q)) (λv=>xp [42] ([42]::(dF [40] [41] (decide (x.rk<3)) (cA x)++r)) λr=>bg k λk=>jR (λd=>.tup [.str "times",Mz v,d]) ((f0 n).sg r k b))=.ok (Tm.times p q x).d r (k+(Tm.times p q x).sz) b:=by
    rw[afo h.1];show bg k (λk=>jR (λd=>.tup [.str "times",Mz (p,q),d]) ((f0 n).sg (dF [40] [41] (decide (x.rk<3)) (cA x)++r) k b))=_;rw[rN o?,fin];show Pr.ok _ r (k+1+x.sz) b=Pr.ok _ r (k+(x.sz+1)) b;rw[show k+1+x.sz=k+(x.sz+1)by om];rfl
   ~e
T! akQ{t:Tm}(h:t.Ok)(kw:lq t)(gp:PR t)(IH:∀x:Tm,x.sz<t.sz->x.Ok->lq x->SU x/\PR x/\LP x):LP t:=by
 intro r k b n m hk hb hn hr;by_cases h2:2<=t.rk
 ·rw[gp r k b n h2 hk hb hn hr,rO]
  h!:oZ t=0:=by
   c! t<;>first|rfl|~absurd (show(2:Int)<=1 from h2) d?
  rw[this];rfl
 ·cases t with
  |times p q x=>~absurd (show(2:Int)<=2 by decide) h2
  |num p q=>~absurd (show(2:Int)<=3 by decide) h2
  |here=>~absurd (show(2:Int)<=3 by decide) h2
  |fZ w v=>~absurd (show(2:Int)<=3 by decide) h2
  |«at» m=>~absurd (show(2:Int)<=3 by decide) h2
  |abs x=>~absurd (show(2:Int)<=3 by decide) h2
  |bin s x y=>
   h! uv:k+(x.sz+y.sz+1)<=30:=hk;h! hp:=y.pos;h! l1:x.sz<(Tm.bin s x y).sz:=by show x.sz<x.sz+y.sz+1;om
   h! l2:y.sz<(Tm.bin s x y).sz:=by show y.sz<x.sz+y.sz+1;om
   h! hbx:eV x<=eV (.bin s x y):=Nat.le_max_left ..;h! hby:eV y+(if y.rk<2 then 1 else 0)<=eV (.bin s x y):=Nat.le_max_right ..;o!⟨s1,s2,s3⟩:=Wv s;h! e:cA (.bin s x y)++r=cA x++(az (sg s)::(dF [40] [41] (decide (y.rk<2)) (cA y)++r)):=by
    show(cA x++az (sg s)::dF [40] [41] (decide (y.rk<2)) (cA y))++r=_;rw[List.append_assoc];rfl
   h! ih:=(IH x l1 h.1 kw.1).2.2 (az (sg s)::(dF [40] [41] (decide (y.rk<2)) (cA y)++r)) k b n (m+1) o? o? o? s2;rw[e];show fU _ (λd r k b=>o4 (f0 n).pr (m+(oZ x+1)) d r k b)=_;rw[show m+(oZ x+1)=m+1+oZ x by om,ih];show(bif [[43],[45]].any (aQ (az (sg s)))then bg (k+x.sz) (λk=>fU ((f0 n).pr (dF [40] [41] (decide (y.rk<2)) (cA y)++r) k b) λe r k b=>o4 (f0 n).pr m (.tup [tS (az (sg s)),x.d,e]) r k b)else _)=_;rw[s1,cond_true,rN o?,s3];h! fin:(f0 n).pr (dF [40] [41] (decide (y.rk<2)) (cA y)++r) (k+x.sz+1) b=.ok y.d r (k+x.sz+1+y.sz) b:=by
    by_cases hy:y.rk<2
    ·rw[if_pos hy]at hby
     rw[decide_eq_true hy];obtain⟨n,rfl⟩:∃j,n=j+3:=\(n - 3,o?);rw[show n+3=(n+2)+1 from rfl,aje];show uH (f0 (n+2)).sg ([40]::(cA y++[[41]])++r) (k+x.sz+1) b=_;u! uH;h! hd:=(afG h.2 kw.2 ([41]::r)).1;h! ht:([40]::(cA y++[[41]])++r).tail=cA y++[41]::r:=by simp
     rw[ht,hd,cond_false];~ac2 o? ((IH y l2 h.2 kw.2).1 ([41]::r) (k+x.sz+1) (b+1) n o? o? o? \(rfl,rfl))
    ·rw[if_neg hy]at hby
     rw[decide_eq_false hy];~(IH y l2 h.2 kw.2).2.1 r (k+x.sz+1) b n o? o? o? o? hr
   rw[fin,rO];show o4 _ m _ r (k+x.sz+1+y.sz) b=o4 _ m _ r (k+(x.sz+y.sz+1)) b;rw[show k+x.sz+1+y.sz=k+(x.sz+y.sz+1)by om];rfl
T! aqC{t:Tm}(gl:LP t):SU t:=by
 intro r k b n hk hb hn hr;obtain⟨n,rfl⟩:∃m,n=m+1:=\(n - 1,o?);show Bu (f0 n).pr (cA t++r) k b=_;u! Bu;h! hl:=akM t;h!:=gl r k b n (100 - oZ t) hk hb o? hr.1;rw[show 100 - oZ t+oZ t=100 by om]at this;rw[this];obtain⟨m,e⟩:∃m,100 - oZ t=m+1:=\(99 - oZ t,o?);rw[e];u! o4;rw[hr.2,cond_false]
T! ac0:∀(s:Nat) (t:Tm),t.sz<s->t.Ok->lq t->SU t/\SG t/\PR t/\LP t
 |0,t,hs,_,_=>absurd hs (Nat.not_lt_zero _)
 |s+1,t,hs,h,kw=>by
  h! IH:∀x:Tm,x.sz<t.sz->x.Ok->lq x->SU x/\SG x/\PR x/\LP x:=λx hx ho hk=>ac0 s x o? ho hk;h! a:=aqc h kw λx hx ho hk=>(IH x hx ho hk).1;h! b:=aoo h kw a λx hx ho hk=>\((IH x hx ho hk).1,(IH x hx ho hk).2.1);h! c:=akQ h kw b λx hx ho hk=>\((IH x hx ho hk).1,(IH x hx ho hk).2.2.1,(IH x hx ho hk).2.2.2);~\(aqC c,a,b,c)
T! ac3{t:Tm}(h:t.Ok)(kw:lq t):SU t:=(ac0 (t.sz+1) t (Nat.lt_succ_self _) h kw).1
end WS
namespace WS
open PySem L2 P2 WP TM T2 PySem.NumText WR WC
D! bl(s:Bool):Int:=if s=true then 2 else 1
D! lK(s:Bool):Int:=if s=true then 3 else 2
D! cY:Cn->List Tk
 |.cmp s x y=>cA x++az (cg s)::cA y
 |.not c=>az "not"::dF [91] [93] (decide (c.rk<3)) (cY c)
 |.two s c e=>dF [91] [93] (decide (c.rk<bl s)) (cY c)++az (cw s)::dF [91] [93] (decide (e.rk<lK s)) (cY e)
D! gK:Cn->Nat
 |.cmp _ x y=>max (eV x) (eV y)
 |.not c=>gK c+if c.rk<3 then 1 else 0
 |.two s c e=>max (gK c+if c.rk<bl s then 1 else 0) (gK e+if e.rk<lK s then 1 else 0)
D! iH:Cn->Nat
 |.cmp _ _ _=>0
 |.not c=>iH c+if c.rk<3 then 4 else 1
 |.two s c e=>max (iH c+if c.rk<bl s then 3 else 0) (iH e+if e.rk<lK s then 3 else 0)
D! nY:Cn->Prop
 |.cmp _ x y=>lq x/\lq y
 |.not c=>nY c
 |.two _ c e=>nY c/\nY e
D! gw(s:Bool):Cn->Nat
 |.two s' c _=>if s'=s then(if c.rk<bl s then 0 else gw s c)+1 else 0
 |_=>0
T! ach(s:Bool)(c:Cn):gw s c<=c.sz:=by
 induction c with
 |two s' x y gW iI=>
  show(if s'=s then(if x.rk<bl s then 0 else gw s x)+1 else 0)<=x.sz+y.sz+1;split;·split<;>om
  ·om
 |_=>~Nat.zero_le _
T! Cn.three(c:Cn):3<=c.sz:=by
 induction c with
 |cmp s x y=>have:=x.pos;h!:=y.pos;show 3<=x.sz+y.sz+1;om
 |not c ih=>show 3<=c.sz+1;om
 |two s c e gW iI=>show 3<=c.sz+e.sz+1;om
T! abk(c:Cn):iH c+6<=2*c.sz/\(c.rk<3->iH c+11<=2*c.sz):=by
 induction c with
 |cmp s x y=>
  h!:=x.pos;h!:=y.pos;~\(by show 0+6<=2*(x.sz+y.sz+1);om,λh=>absurd h (by show¬(4:Int)<3;decide))
 |not c ih=>
  r!\(?_,λh=>absurd h (by show¬(3:Int)<3;decide));show(iH c+if c.rk<3 then 4 else 1)+6<=2*(c.sz+1);split;·h!:=ih.2 (by assumption);om
  ·h!:=ih.1;om
 |two s c e gW iI=>
  h! h1:=Cn.three c;h! h2:=Cn.three e;h! a:=gW.1;h! b:=iI.1;h! k:max (iH c+if c.rk<bl s then 3 else 0) (iH e+if e.rk<lK s then 3 else 0)+11<=2*(c.sz+e.sz+1):=by
   split<;>split<;>om
  ~\(by show max _ _+6<=2*(c.sz+e.sz+1);om,λ_=>k)
T! arP(w:Nat):aQ (az (wd w)) [110,111,116]=false/\aQ (az (wd w)) [91]=false:=by
 u! wd;split;·decide
 ·split
  ·decide
  ·split<;>decide
T! art{t:Tm}(h:t.Ok)(r:List Tk):aQ (nx (cA t++r)) [110,111,116]=false/\aQ (nx (cA t++r)) [91]=false:=by
 induction t generalizing r with
 |num p q=>
  o!⟨c,s,e,hc⟩:=Cj h;~\(mq e hc (.inr d?),mq e hc (.inr d?))
 |here=>~\((show aQ (az "here") [110,111,116]=false by decide),(show aQ (az "here") [91]=false by decide))
 |fZ w n=>~arP w
 |«at» m=>~\((show aQ (az "at") [110,111,116]=false by decide),(show aQ (az "at") [91]=false by decide))
 |bin s x y gW iI=>
  h!:=gW h.1 (az (sg s)::dF [40] [41] (decide (y.rk<2)) (cA y)++r);h! e:cA (.bin s x y)++r=cA x++(az (sg s)::dF [40] [41] (decide (y.rk<2)) (cA y)++r):=by
   show(cA x++az (sg s)::dF [40] [41] (decide (y.rk<2)) (cA y))++r=_;rw[List.append_assoc]
  rw[e];~this
 |times p q x ih=>
  o!⟨c,s,e,hc⟩:=Cj h.1;~\(mq e hc (.inr d?),mq e hc (.inr d?))
 |abs x ih=>~\((show aQ (az "abs") [110,111,116]=false by decide),(show aQ (az "abs") [91]=false by decide))
T! Qt(s:Bool):[[60],[61]].any (aQ (az (cg s)))=true/\aQ (az (cg s)) [42]=false/\[[43],[45]].any (aQ (az (cg s)))=false/\tS (az (cg s))=.str (cg s):=by
 c! s;·~\(d?,d?,d?,congrArg D.str (lO _))
 ·~\(d?,d?,d?,congrArg D.str (lO _))
D! wL(s:Bool):Tk:=if s=true then[97,110,100]else[111,114]
T! agg(s:Bool)(r:List Tk):nM (wL s::r):=by
 c! s;·~\((show aQ [111,114] [42]=false by decide),(show[[43],[45]].any (aQ [111,114])=false by decide))
 ·~\((show aQ [97,110,100] [42]=false by decide),(show[[43],[45]].any (aQ [97,110,100])=false by decide))
D! nW(s:Bool)(r:List Tk):Prop:=aQ (nx r) (wL s)=false
T! ajg(n:Nat):(f1 (n+1)).or=pO [111,114] "or" (f1 n).and:=rfl
T! aa9(n:Nat):(f1 (n+1)).and=pO [97,110,100] "and" (f1 n).not:=rfl
T! aba(n:Nat):(f1 (n+1)).not=yE (f1 n).not (f1 n).or (yD (f0 75).su):=rfl
T! Jz{n:Nat}{x:List Tk}{d:D}{r:List Tk}{k k' b:Nat}(hb:b<=15)(h:(f1 n).or (x++[93]::r) k (b+1)=.ok d ([93]::r) k' (b+1)):(f1 (n+1)).not ([91]::(x++[[93]])++r) k b=.ok d r k' b:=by
 rw[aba];u! yE;rw[show[91]::(x++[[93]])++r=[91]::(x++[93]::r)by simp];rw[show aQ (nx ([91]::(x++[93]::r))) [110,111,116]=false from rfl,cond_false,show aQ (nx ([91]::(x++[93]::r))) [91]=true from rfl,cond_true,aa5 hb,h,rO,acv]
D! NT(c:Cn):Prop:=∀(r:List Tk) (k b n:Nat),3<=c.rk->k+c.sz<=30->b+gK c<=16->iH c+1<=n->nM r->(f1 n).not (cY c++r) k b=.ok c.d r (k+c.sz) b
D! AL(c:Cn):Prop:=∀(r:List Tk) (k b n m:Nat),2<=c.rk->k+c.sz<=30->b+gK c<=16->iH c+1<=n->nM r->
    fU ((f1 n).not (cY c++r) k b) (λd r k b=>jt [97,110,100] "and" (f1 n).not (m+gw true c) d r k b)=jt [97,110,100] "and" (f1 n).not m c.d r (k+c.sz) b
D! AN(c:Cn):Prop:=∀(r:List Tk) (k b n:Nat),2<=c.rk->k+c.sz<=30->b+gK c<=16->iH c+2<=n->nM r->nW true r->(f1 n).and (cY c++r) k b=.ok c.d r (k+c.sz) b
D! OL(c:Cn):Prop:=∀(r:List Tk) (k b n m:Nat),k+c.sz<=30->b+gK c<=16->iH c+2<=n->nM r->nW true r->
    fU ((f1 n).and (cY c++r) k b) (λd r k b=>jt [111,114] "or" (f1 n).and (m+gw false c) d r k b)=jt [111,114] "or" (f1 n).and m c.d r (k+c.sz) b
D! OR(c:Cn):Prop:=∀(r:List Tk) (k b n:Nat),k+c.sz<=30->b+gK c<=16->iH c+3<=n->nM r->nW true r->nW false r->(f1 n).or (cY c++r) k b=.ok c.d r (k+c.sz) b
T! JT(r:List Tk):nM ([93]::r)/\nW true ([93]::r)/\nW false ([93]::r):=\(\(rfl,rfl),rfl,rfl)
T! aac{c:Cn}{q:Int}(no:NT c)(oo:OR c)(hq:q<=3)(hq2:¬c.rk<q->3<=c.rk)(r:List Tk)(k b n:Nat)(hk:k+c.sz<=30)(hb:b+(gK c+if c.rk<q then 1 else 0)<=16)(hn:(iH c+if c.rk<q then 3 else 0)+1<=n)(hr:nM r):
    (f1 n).not (dF [91] [93] (decide (c.rk<q)) (cY c)++r) k b=.ok c.d r (k+c.sz) b:=by
 by_cases h:c.rk<q
 ·rw[if_pos h]at hb hn
  rw[decide_eq_true h];obtain⟨n,rfl⟩:∃m,n=m+1:=\(n - 1,o?);o!⟨m1,m2,m3⟩:=JT r;~Jz o? (oo ([93]::r) k (b+1) n hk o? o? m1 m2 m3)
 ·rw[if_neg h]at hb hn
  rw[decide_eq_false h];~no r k b n (hq2 h) hk o? o? hr
T! alY{c:Cn}(h:c.Ok)(kw:nY c)(IH:∀x:Cn,x.sz<c.sz->x.Ok->nY x->NT x/\OR x):NT c:=by
 intro r k b n h3 hk hb hn hr;obtain⟨n,rfl⟩:∃m,n=m+1:=\(n - 1,o?);h! kp:k<=29:=by h!:=Cn.three c;om
 rw[aba];u! yE;cases c with
 |two s x y=>
  exfalso;h! Gd:(3:Int)<=if s=true then 2 else 1:=h3
  c! s;·~absurd (show(3:Int)<=1 from Gd) d?
  ·~absurd (show(3:Int)<=2 from Gd) d?
 |cmp s x y=>
  h! uv:k+(x.sz+y.sz+1)<=30:=hk;h! hx:=x.pos;h! hy:=y.pos;h! b1:eV x<=gK (.cmp s x y):=Nat.le_max_left ..;h! b2:eV y<=gK (.cmp s x y):=Nat.le_max_right ..;o!⟨c1,c2,c3,c4⟩:=Qt s;h! e:cY (.cmp s x y)++r=cA x++(az (cg s)::(cA y++r)):=by
   show(cA x++az (cg s)::cA y)++r=_;rw[List.append_assoc];rfl
  o!⟨d1,d2⟩:=art h.1 (az (cg s)::(cA y++r));rw[e,d1,cond_false,d2,cond_false];u! yD;rw[rN kp,ac3 h.1 kw.1 (az (cg s)::(cA y++r)) (k+1) b 75 o? o? o? \(c2,c3),rO];show(bif [[60],[61]].any (aQ (az (cg s)))then jR (λe=>.tup [tS (az (cg s)),x.d,e]) ((f0 75).su (cA y++r) (k+1+x.sz) b)else _)=_;rw[c1,cond_true,ac3 h.2 kw.2 r (k+1+x.sz) b 75 o? o? o? hr,c4];show Pr.ok _ r (k+1+x.sz+y.sz) b=Pr.ok _ r (k+(x.sz+y.sz+1)) b;rw[show k+1+x.sz+y.sz=k+(x.sz+y.sz+1)by om];rfl
 |not c=>
  h! uv:k+(c.sz+1)<=30:=hk;o!⟨no,oo⟩:=IH c (Nat.lt_succ_self _) h kw;h! hb':b+(gK c+if c.rk<3 then 1 else 0)<=16:=hb;h! v7:(iH c+if c.rk<3 then 4 else 1)+1<=n+1:=hn;h! g:(iH c+if c.rk<3 then 3 else 0)+1<=n:=by
   by_cases z:c.rk<3;·rw[if_pos z]at v7⊢;om
   ·rw[if_neg z]at v7⊢;om
  h! fin:=aac (q:=3) no oo d? (λz=>by om) r (k+1) b n o? hb' g hr;h! e:xp [110,111,116] (az "not"::(dF [91] [93] (decide (c.rk<3)) (cY c)++r)) (λr=>bg k λk=>jR (λd=>.tup [.str "not",d]) ((f1 n).not r k b))=.ok (Cn.not c).d r (k+(Cn.not c).sz) b:=by
   show(bif aQ (az "not") [110,111,116]then bg k (λk=>jR (λd=>.tup [.str "not",d]) ((f1 n).not (dF [91] [93] (decide (c.rk<3)) (cY c)++r) k b))else .no)=_;rw[show aQ (az "not") [110,111,116]=true by decide,cond_true,rN kp,fin];show Pr.ok _ r (k+1+c.sz) b=Pr.ok _ r (k+(c.sz+1)) b;rw[show k+1+c.sz=k+(c.sz+1)by om];rfl
  rw[show aQ (nx (cY (.not c)++r)) [110,111,116]=true from(show aQ (az "not") [110,111,116]=true by decide),cond_true];~e
T! aai{w:Tk}{s:Str}{pp:PF}{m:Nat}{d e:D}{r r':List Tk}{k k' b:Nat}(hk:k<=29)(h:pp r (k+1) b=.ok e r' k' b):jt w s pp (m+1) d (w::r) k b=jt w s pp m (.tup [.str s,d,e]) r' k' b:=by
 show(bif aQ w w then xp w (w::r) (λr=>bg k λk=>fU (pp r k b) λe r k b=>jt w s pp m (.tup [.str s,d,e]) r k b)else .ok d (w::r) k b)=_;rw[JW,cond_true];show(bif aQ w w then bg k (λk=>fU (pp r k b) λe r k b=>jt w s pp m (.tup [.str s,d,e]) r k b)else .no)=_;rw[JW,cond_true,rN hk,h,rO]
T! Qf{w:Tk}{s:Str}{pp:PF}{m:Nat}{d:D}{r:List Tk}{k b:Nat}(h:aQ (nx r) w=false):jt w s pp (m+1) d r k b=.ok d r k b:=by
 u! jt;rw[h,cond_false]
T! api(c:Cn):1<=c.rk:=by
 cases c with
 |cmp s x y=>show(1:Int)<=4;decide
 |not c=>show(1:Int)<=3;decide
 |two s x y=>show(1:Int)<=if s=true then 2 else 1;split<;>decide
T! ahC{c:Cn}(h:c.Ok)(kw:nY c)(no:NT c)(IH:∀x:Cn,x.sz<c.sz->x.Ok->nY x->NT x/\AL x/\OR x):AL c:=by
 intro r k b n m h2 hk hb hn hr;by_cases h3:3<=c.rk
 ·rw[no r k b n h3 hk hb hn hr,rO]
  h!:gw true c=0:=by
   cases c with
   |two s x y=>
    exfalso;h! Gd:(3:Int)<=if s=true then 2 else 1:=h3
    c! s;·~absurd (show(3:Int)<=1 from Gd) d?
    ·~absurd (show(3:Int)<=2 from Gd) d?
   |_=>rfl
  rw[this];rfl
 ·cases c with
  |cmp s x y=>~absurd (show(3:Int)<=4 by decide) h3
  |not c=>~absurd (show(3:Int)<=3 by decide) h3
  |two s x y=>
   cases s with
   |false=>~absurd (show(2:Int)<=1 from h2) d?
   |true=>
    h! uv:k+(x.sz+y.sz+1)<=30:=hk;h! y3:=Cn.three y;h! l1:x.sz<(Cn.two true x y).sz:=by show x.sz<x.sz+y.sz+1;om
    h! l2:y.sz<(Cn.two true x y).sz:=by show y.sz<x.sz+y.sz+1;om
    o!⟨nx',ax,ox⟩:=IH x l1 h.1 kw.1;o!⟨ny,ay,oy⟩:=IH y l2 h.2 kw.2;h! bx:gK x+(if x.rk<2 then 1 else 0)<=gK (.two true x y):=Nat.le_max_left ..;h! Qj:gK y+(if y.rk<3 then 1 else 0)<=gK (.two true x y):=Nat.le_max_right ..;h! fx:iH x+(if x.rk<2 then 3 else 0)<=iH (.two true x y):=Nat.le_max_left ..;h! fy:iH y+(if y.rk<3 then 3 else 0)<=iH (.two true x y):=Nat.le_max_right ..;h! e:cY (.two true x y)++r=dF [91] [93] (decide (x.rk<2)) (cY x)++([97,110,100]::(dF [91] [93] (decide (y.rk<3)) (cY y)++r)):=by
     show(dF [91] [93] (decide (x.rk<2)) (cY x)++az (cw true)::dF [91] [93] (decide (y.rk<3)) (cY y))++r=_;rw[List.append_assoc,show az (cw true)=[97,110,100]by decide];rfl
    h! fin:=aac (q:=3) ny oy d? (λz=>by om) r (k+x.sz+1) b n o? o? o? hr;h! st:∀m:Nat,jt [97,110,100] "and" (f1 n).not (m+1) x.d ([97,110,100]::(dF [91] [93] (decide (y.rk<3)) (cY y)++r)) (k+x.sz) b=jt [97,110,100] "and" (f1 n).not m (Cn.two true x y).d r (k+(Cn.two true x y).sz) b:=λm=>by
     rw[aai o? fin];show jt _ _ _ m _ r (k+x.sz+1+y.sz) b=jt _ _ _ m _ r (k+(x.sz+y.sz+1)) b;rw[show k+x.sz+1+y.sz=k+(x.sz+y.sz+1)by om];rfl
    h! hm:nM ([97,110,100]::(dF [91] [93] (decide (y.rk<3)) (cY y)++r)):=agg true _;rw[e];by_cases hx:x.rk<2
    ·rw[if_pos hx]at bx fx
     rw[decide_eq_true hx,show gw true (.two true x y)=0+1 by show(if true=true then(if x.rk<2 then 0 else gw true x)+1 else 0)=_;rw[if_pos rfl,if_pos hx]];obtain⟨n,rfl⟩:∃j,n=j+1:=\(n - 1,o?);o!⟨m1,m2,m3⟩:=JT ([97,110,100]::(dF [91] [93] (decide (y.rk<3)) (cY y)++r));h!:=Jz (r:=[97,110,100]::(dF [91] [93] (decide (y.rk<3)) (cY y)++r)) o? (ox _ k (b+1) n o? o? o? m1 m2 m3);show fU ((f1 (n+1)).not ([91]::(cY x++[[93]])++_) k b) _=_;rw[this,rO];~st m
    ·rw[if_neg hx]at bx fx
     rw[decide_eq_false hx,show gw true (.two true x y)=gw true x+1 by show(if true=true then(if x.rk<2 then 0 else gw true x)+1 else 0)=_;rw[if_pos rfl,if_neg hx]];h! ih:=ax ([97,110,100]::(dF [91] [93] (decide (y.rk<3)) (cY y)++r)) k b n (m+1) o? o? o? o? hm;show fU ((f1 n).not (cY x++_) k b) _=_;rw[show m+(gw true x+1)=m+1+gw true x by om,ih];~st m
T! ahG{c:Cn}(al:AL c):AN c:=by
 intro r k b n h2 hk hb hn hr hw;obtain⟨n,rfl⟩:∃j,n=j+1:=\(n - 1,o?);h! hl:=ach true c;rw[aa9];u! pO;h!:=al r k b n (100 - gw true c) h2 hk hb o? hr;rw[show 100 - gw true c+gw true c=100 by om]at this;rw[this];obtain⟨m,e⟩:∃m,100 - gw true c=m+1:=\(99 - gw true c,o?);rw[e];~Qf hw
T! anc{c:Cn}(h:c.Ok)(kw:nY c)(an:AN c)(IH:∀x:Cn,x.sz<c.sz->x.Ok->nY x->AN x/\OL x/\OR x):OL c:=by
 intro r k b n m hk hb hn hr hw;by_cases h2:2<=c.rk
 ·rw[an r k b n h2 hk hb hn hr hw,rO]
  h!:gw false c=0:=by
   cases c with
   |two s x y=>
    cases s with
    |false=>~absurd (show(2:Int)<=1 from h2) d?
    |true=>rfl
   |_=>rfl
  rw[this];rfl
 ·cases c with
  |cmp s x y=>~absurd (show(2:Int)<=4 by decide) h2
  |not c=>~absurd (show(2:Int)<=3 by decide) h2
  |two s x y=>
   cases s with
   |true=>~absurd (show(2:Int)<=2 by decide) h2
   |false=>
    h! uv:k+(x.sz+y.sz+1)<=30:=hk;h! y3:=Cn.three y;h! l1:x.sz<(Cn.two false x y).sz:=by show x.sz<x.sz+y.sz+1;om
    h! l2:y.sz<(Cn.two false x y).sz:=by show y.sz<x.sz+y.sz+1;om
    o!⟨ax,lx,ox⟩:=IH x l1 h.1 kw.1;o!⟨ay,ly,oy⟩:=IH y l2 h.2 kw.2;h! hx:¬x.rk<1:=by h!:=api x;om
    h! bx:gK x+(if x.rk<1 then 1 else 0)<=gK (.two false x y):=Nat.le_max_left ..;h! Qj:gK y+(if y.rk<2 then 1 else 0)<=gK (.two false x y):=Nat.le_max_right ..;h! fx:iH x+(if x.rk<1 then 3 else 0)<=iH (.two false x y):=Nat.le_max_left ..;h! fy:iH y+(if y.rk<2 then 3 else 0)<=iH (.two false x y):=Nat.le_max_right ..;rw[if_neg hx]at bx fx;h! e:cY (.two false x y)++r=cY x++([111,114]::(dF [91] [93] (decide (y.rk<2)) (cY y)++r)):=by
     show(dF [91] [93] (decide (x.rk<1)) (cY x)++az (cw false)::dF [91] [93] (decide (y.rk<2)) (cY y))++r=_;rw[List.append_assoc,show az (cw false)=[111,114]by decide,decide_eq_false hx];rfl
    h! fin:(f1 n).and (dF [91] [93] (decide (y.rk<2)) (cY y)++r) (k+x.sz+1) b=.ok y.d r (k+x.sz+1+y.sz) b:=by
     by_cases hy:y.rk<2
     ·rw[if_pos hy]at Qj fy
      rw[decide_eq_true hy];obtain⟨n,rfl⟩:∃j,n=j+2:=\(n - 2,o?);o!⟨m1,m2,m3⟩:=JT r;h!:=Jz (r:=r) o? (oy ([93]::r) (k+x.sz+1) (b+1) n o? o? o? m1 m2 m3);rw[show n+2=(n+1)+1 from rfl,aa9];u! pO;show fU ((f1 (n+1)).not ([91]::(cY y++[[93]])++r) (k+x.sz+1) b) _=_;rw[this,rO];~Qf (m:=99) hw
     ·rw[if_neg hy]at Qj fy
      rw[decide_eq_false hy];~ay r (k+x.sz+1) b n o? o? o? o? hr hw
    h! ih:=lx ([111,114]::(dF [91] [93] (decide (y.rk<2)) (cY y)++r)) k b n (m+1) o? o? o? (agg false _) rfl;rw[e,show gw false (.two false x y)=gw false x+1 by show(if false=false then(if x.rk<1 then 0 else gw false x)+1 else 0)=_;rw[if_pos rfl,if_neg hx],show m+(gw false x+1)=m+1+gw false x by om,ih,aai o? fin];show jt _ _ _ m _ r (k+x.sz+1+y.sz) b=jt _ _ _ m _ r (k+(x.sz+y.sz+1)) b;rw[show k+x.sz+1+y.sz=k+(x.sz+y.sz+1)by om];rfl
T! anC{c:Cn}(ol:OL c):OR c:=by
 intro r k b n hk hb hn hr hw hv;obtain⟨n,rfl⟩:∃j,n=j+1:=\(n - 1,o?);h! hl:=ach false c;rw[ajg];u! pO;h!:=ol r k b n (100 - gw false c) hk hb o? hr hw;rw[show 100 - gw false c+gw false c=100 by om]at this;rw[this];obtain⟨m,e⟩:∃m,100 - gw false c=m+1:=\(99 - gw false c,o?);rw[e];~Qf hv
T! Qm:∀(s:Nat) (c:Cn),c.sz<s->c.Ok->nY c->NT c/\AL c/\AN c/\OL c/\OR c
 |0,c,hs,_,_=>absurd hs (Nat.not_lt_zero _)
 |s+1,c,hs,h,kw=>by
  h! IH:∀x:Cn,x.sz<c.sz->x.Ok->nY x->NT x/\AL x/\AN x/\OL x/\OR x:=λx hx ho hk=>Qm s x o? ho hk;h! a:=alY h kw λx hx ho hk=>\((IH x hx ho hk).1,(IH x hx ho hk).2.2.2.2);h! b:=ahC h kw a λx hx ho hk=>\((IH x hx ho hk).1,(IH x hx ho hk).2.1,(IH x hx ho hk).2.2.2.2);h! c':=ahG b;h! d:=anc h kw c' λx hx ho hk=>\((IH x hx ho hk).2.2.1,(IH x hx ho hk).2.2.2.1,(IH x hx ho hk).2.2.2.2);~\(a,b,c',d,anC d)
T! apd{c:Cn}(h:c.Ok)(kw:nY c)(hz:c.sz<=30)(hb:gK c<=16):pEnd ((f1 85).or (cY c) 0 0)=.ok c.d [] c.sz 0:=by
 h! hf:=(abk c).1;h!:=(Qm (c.sz+1) c (Nat.lt_succ_self _) h kw).2.2.2.2 [] 0 0 85 o? o? o? \(rfl,rfl) rfl rfl;rw[List.append_nil,Nat.zero_add]at this;rw[this];rfl
end WS
namespace WR
open PySem L2 P2 WP TM T2 PySem.NumText
local macro_rules|`(tactic|walk_at "zw")=>`(tactic|simp only[yV,Yg,lV,X7,yU,Ye,agB,agD,agE,agp,X8,agq,oF,Yh,gH,sZ,uX,wO,Og,CP,agF,wV,ph,oG,wU,agI,pU,agG,wQ,wR,agH,qU,agi,Oe,agj,X6,Ig,Ii,Ih,agy,agt,Yb,Yc,Yd,agz,agA,agC,agw,agu,agk,agx,agv,agl,agm,iY,Hj,ie,qN,lu,ju,fL,aV,M3,wH,MN,Ng,Hm,M9,ou,qO,uK,XJ,XM,cond_true,cond_false,Bool.not_true,Bool.not_false,List.length_map])
A! Za(a:Ad):Z!:=λzs S=>bw (FQ a S.length (bG 3 zs) S)
A! Zt(a:Ad):Z!:=λzs S=>bw (xV a (Za a) S.length (bG 2 zs) S)
A! Ze(a:Ad):Z!:=λzs S=>bw (xU a (Zt a) S.length (bG 2 zs) S)
A! Zx(a:Ad):Z!:=λzs S=>bw (FZ a (Za a) S.length (bG 1 zs) S)
A! Zb(a:Ad):Z!:=λzs S=>bw (FT a S.length (bG 1 zs) S)
A! Zn(a:Ad):Z!:=λzs S=>bw (FW a (Ze a) S.length (bG 2 zs) S)
A! Zl(a:Ad):Z!:=λzs S=>bw (Ga a (Ze a) S.length (bG 2 zs) S)
T! DY:az (Str.ofString "")=[]:=by decide
T! emp:(.str (Str.ofString ""):D)=tS []:=congrArg D.str (ext d?)
section
variable{a:Ad}{T:List Tk}{p k b:Nat}{ρ:aJ}
T! acy(j:Nat):Za a [.loc 0,.d (.int (j:Nat))] (aH a T p k b)=.ok (.d (tS (nx (T.drop (p+j))))) (aH a T p k b):=by
 show bw (FQ a 1 [some (.loc 0),some (.d (.int (j:Nat))),none] (aH a T p k b))=_;u! FQ;by_cases h:p+j<T.length
 ·h! h1:((p:Nat):Int)+((j:Nat):Int)<((T.length:Nat):Int):=by om
  h! h2:L2.bN (T.map tS) (((p:Nat):Int)+((j:Nat):Int))=some (tS (nx (T.drop (p+j)))):=by
   rw[<-Int.natCast_add];r! vM ?_;rw[List.getElem?_map,List.getElem?_eq_getElem h,List.drop_eq_getElem_cons h];rfl
  (repeat(first|walk_at "zw"|S![decide_eq_true h1,Vi,h2]))
 ·h! h1:¬((p:Nat):Int)+((j:Nat):Int)<((T.length:Nat):Int):=by om
  h! h2:T.drop (p+j)=[]:=List.drop_eq_nil_of_le o?
  (repeat(first|walk_at "zw"|S![decide_eq_false h1,h2,emp]))
  rfl
T! yS:cQ a.Tokens "ahead" (Za a) [.int 0] (zV 0) aW (some (.loc 0)::ρ) (aH a T p k b)=.ok (.d (tS (nx (T.drop p)))) (aH a T p k b):=by
 rw[uW d? ph];~acy 0
T! agh:cQ a.Tokens "ahead" (Za a) [] (zV 0) (aN (zD #1) aW) (some (.loc 0)::ρ) (aH a T p k b)=.ok (.d (tS (nx (T.drop p).tail))) (aH a T p k b):=by
 rw[uW (zs:=[.d (.int 1)]) d? rfl];h!:=acy (a:=a) (T:=T) (p:=p) (k:=k) (b:=b) 1;rw[List.tail_drop];~this
T! eq_nil{t:Tk}(h:t≠[]):aQ t []=false:=by
 cases t with
 |nil=>~absurd rfl h
 |cons=>rfl
T! vW{t:Tk}{r:List Tk}(h:T.drop p=t::r):T.drop (p+1)=r:=by
 rw[<-List.tail_drop,h];rfl
T! mem_of{t:Tk}{r:List Tk}(h:T.drop p=t::r):t∈T:=List.mem_of_mem_drop (by rw[h];~List.mem_cons_self ..)
T! Bj(h:T.drop p=[]):Zt a [.loc 0] (aH a T p k b)=.ex a.NoText ["row"] [.int 1] (aH a T p k b):=by
 show bw (xV a (Za a) 1 [some (.loc 0),none] (aH a T p k b))=_;u! xV
 (repeat(first|walk_at "zw"|S![yS,DY,h,nx,aQ]))
T! Bh{t:Tk}{r:List Tk}(O:jf T)(h:T.drop p=t::r):Zt a [.loc 0] (aH a T p k b)=.ok (.d (tS t)) (aH a T (p+1) k b):=by
 show bw (xV a (Za a) 1 [some (.loc 0),none] (aH a T p k b))=_;u! xV;h! e:=eq_nil (O.n t (mem_of h))
 (repeat(first|walk_at "zw"|S![yS,DY,h,nx,e]))
T! sY:cQ a.Tokens "take" (Zt a) [] (zV 0) aW (some (.loc 0)::ρ) (aH a T p k b)=Zt a [.loc 0] (aH a T p k b):=uW (m:="take") d? ph
T! SN{s:Str}(h:T.drop p=[]):Ze a [.loc 0,.d (.str s)] (aH a T p k b)=.ex a.NoText ["row"] [.int 1] (aH a T p k b):=by
 show bw (xU a (Zt a) 1 [some (.loc 0),some (.d (.str s))] (aH a T p k b))=_;u! xU;S![CP,wR,wQ,sY];rw[Bj h];rfl
T! SM{s:Str}{t:Tk}{r:List Tk}(O:jf T)(h:T.drop p=t::r):Ze a [.loc 0,.d (.str s)] (aH a T p k b)=bif aQ t (az s)then .ok (.d .non) (aH a T (p+1) k b)else .ex a.NoText ["row"] [.int 1] (aH a T (p+1) k b):=by
 show bw (xU a (Zt a) 1 [some (.loc 0),some (.d (.str s))] (aH a T p k b))=_;u! xU;S![CP,wR,wQ,sY];rw[Bh O h];cases e:aQ t (az s)<;>(repeat(first|walk_at "zw"|S![e]))
T! arM{s:Str}:cQ a.Tokens "expect" (Ze a) [] (zV 0) (aN (zD (dC (.str s))) aW) (some (.loc 0)::ρ) (aH a T p k b)=Ze a [.loc 0,.d (.str s)] (aH a T p k b):=uW (m:="expect") (zs:=[.d (.str s)]) d? rfl
T! agn{s:Str}:cQ a.Tokens "expect" (Ze a) [] (zV 0) (aN (zD &1) aW) (some (.loc 0)::some (.d (.str s))::ρ) (aH a T p k b)=Ze a [.loc 0,.d (.str s)] (aH a T p k b):=uW (m:="expect") (zs:=[.d (.str s)]) d? rfl
T! akX:Zx a [.loc 0] (aH a T p k b)=bif aQ (nx (T.drop p)) []then .ok (.d .non) (aH a T p k b)else .ex a.NoText ["row"] [.int 1] (aH a T p k b):=by
 show bw (FZ a (Za a) 1 [some (.loc 0)] (aH a T p k b))=_;u! FZ;cases e:aQ (nx (T.drop p)) []<;>(repeat(first|walk_at "zw"|S![yS,DY,e]))
T! akS:Zb a [.loc 0] (aH a T p k b)=bif Nat.ble k 29 then .ok (.d .non) (aH a T p (k+1) b)else .ex a.NoText ["row"] [.int 1] (aH a T p (k+1) b):=by
 show bw (FT a 1 [some (.loc 0)] (aH a T p k b))=_;u! FT;cases e:Nat.ble k 29 with
 |true=>
  h! h:¬(30:Int)<(((k+1:Nat):Nat):Int):=by h!:=Nat.le_of_ble_eq_true e;om
  (repeat(first|walk_at "zw"|S![decide_eq_false h]))
 |false=>
  h! h:(30:Int)<(((k+1:Nat):Nat):Int):=by
   h!:¬k<=29:=λz=>by rw[Nat.ble_eq_true_of_le z]at e;c! e
   om
  (repeat(first|walk_at "zw"|S![decide_eq_true h]))
D! Rt(a:Ad)(T:List Tk)(x:aU):Pr->Prop
 |.ok d r k b=>∃p,T.drop p=r/\x=.rt (.d d) (aH a T p k b)
 |.no=>∃S,x=.ex a.NoText ["row"] [.int 1] S
 |.bad=>True
T! Rt.fin{x:aU}{P:Pr}(h:Rt a T x P):Rl a T (bw x) P:=by
 cases P with
 |ok d r k b=>o!⟨p,e,h⟩:=h;~\(p,e,by rw[h];rfl)
 |no=>o!⟨S,h⟩:=h;~\(S,by rw[h];rfl)
 |bad=>trivial
T! Rt.seq{x:aU}{P:Pr}{f:aJ->aC->aU}(h:Rt a T x P):Rt a T (lA x f) P:=by
 cases P with
 |ok d r k b=>o!⟨p,e,h⟩:=h;~\(p,e,by rw[h];rfl)
 |no=>o!⟨S,h⟩:=h;~\(S,by rw[h];rfl)
 |bad=>trivial
T! An{f:Nat->Pr}{rest:aJ->aC->aU}(H:Rt a T (rest (some (.loc 0)::ρ) (aH a T p (k+1) b)) (f (k+1))):
    Rt a T (aY (fO (cQ a.Tokens "begin_part" (Zb a) [] (zV 0) aW)) rest (some (.loc 0)::ρ) (aH a T p k b)) (bg k f):=by
 rw[gH,sZ,uW d? ph];show Rt a T (lA (toZ (Zb a [.loc 0] (aH a T p k b)) _) _) _;rw[akS];u! bg;cases Nat.ble k 29 with
 |true=>~H
 |false=>~\(_,rfl)
T! Ro{f:List Tk->Pr}{s:Str}{c:Tk}{rest:aJ->aC->aU}(O:jf T)(hc:az s=c)(H:Rt a T (rest (some (.loc 0)::ρ) (aH a T (p+1) k b)) (f (T.drop (p+1)))):
    Rt a T (aY (fO (cQ a.Tokens "expect" (Ze a) [] (zV 0) (aN (zD (dC (.str s))) aW))) rest (some (.loc 0)::ρ) (aH a T p k b)) (xp c (T.drop p) f):=by
 rw[gH,sZ,arM];subst hc;u! xp tk;cases h:T.drop p with
 |nil=>rw[SN h];~\(_,rfl)
 |cons t r=>
  rw[SM O h];rw[vW h]at H;dsimp only;cases aQ t (az s)with
  |true=>~H
  |false=>~\(_,rfl)
T! acz{s:Str}{rest:aJ->aC->aU}{f:List Tk->Nat->Pr}{c:Tk}(O:jf T)(hc:az s=c)(H:Rt a T (rest (some (.loc 0)::ρ) (aH a T (p+1) k (b+1))) (f (T.drop (p+1)) (b+1))):
    Rt a T (aY (fO (cQ a.Tokens "enter" (Zn a) [] (zV 0) (aN (zD (dC (.str s))) aW))) rest (some (.loc 0)::ρ) (aH a T p k b)) (en c (T.drop p) b f):=by
 rw[gH,sZ,uW (zs:=[.d (.str s)]) d? rfl];show Rt a T (lA (toZ (bw (FW a (Ze a) 1 [some (.loc 0),some (.d (.str s))] (aH a T p k b))) _) _) _;u! FW;rw[gH,sZ,agn];subst hc;u! en tk;cases h:T.drop p with
 |nil=>rw[SN h];~\(_,rfl)
 |cons t r=>
  rw[SM O h];rw[vW h]at H;dsimp only;cases aQ t (az s)with
  |false=>~\(_,rfl)
  |true=>
   cases e:Nat.ble b 15 with
   |true=>
    h! h:¬(16:Int)<(((b+1:Nat):Nat):Int):=by h!:=Nat.le_of_ble_eq_true e;om
    (repeat(first|walk_at "zw"|S![decide_eq_false h]))
    ~H
   |false=>
    h! h:(16:Int)<(((b+1:Nat):Nat):Int):=by
     h!:¬b<=15:=λz=>by rw[Nat.ble_eq_true_of_le z]at e;c! e
     om
    (repeat(first|walk_at "zw"|S![decide_eq_true h]))
    ~\(_,rfl)
T! abv{s:Str}{d:D}{c:Tk}(O:jf T)(hc:az s=c):
    Rt a T (aY (fO (cQ a.Tokens "leave" (Zl a) [] (zV 0) (aN (zD (dC (.str s))) aW))) (fD (zD &1)) (some (.loc 0)::some (.d d)::ρ) (aH a T p k b)) (lv c d (T.drop p) k b):=by
 rw[gH,sZ,uW (zs:=[.d (.str s)]) d? rfl];show Rt a T (lA (toZ (bw (Ga a (Ze a) 1 [some (.loc 0),some (.d (.str s))] (aH a T p k b))) _) _) _;u! Ga;rw[gH,sZ,agn];subst hc;u! lv tk;cases h:T.drop p with
 |nil=>rw[SN h];~\(_,rfl)
 |cons t r=>
  rw[SM O h];dsimp only;cases aQ t (az s)with
  |false=>~\(_,rfl)
  |true=>
   cases b with
   |zero=>trivial
   |succ b=>
    r!\(p+1,vW h,?_);walk_at "zw"
T! xR{F:Z!}{G:PF}(hF:eU a T F G){f:D->PF}{y:Option Z}{rest:aJ->aC->aU}(H:∀d p k b,Rt a T (rest (some (.loc 0)::some (.d d)::ρ) (aH a T p k b)) (f d (T.drop p) k b)):
    Rt a T (aY (cU 1 (zZ F (aN (zV 0) aW))) rest (some (.loc 0)::y::ρ) (aH a T p k b)) (fU (G (T.drop p) k b) f):=by
 h! h:=hF p k b;S![gH,wO,wV,oG,wU,ph,lV];cases e:G (T.drop p) k b with
 |bad=>trivial
 |no=>rw[e]at h;o!⟨S,h⟩:=h;rw[h];~\(_,rfl)
 |ok d r k' b'=>rw[e]at h;o!⟨p',e',h⟩:=h;rw[h];subst e';~H _ _ _ _
T! ajw{f:Tk->List Tk->Pr}(O:jf T){y:Option Z}{rest:aJ->aC->aU}(H:∀t r,T.drop p=t::r->Rt a T (rest (some (.loc 0)::some (.d (tS t))::ρ) (aH a T (p+1) k b)) (f t (T.drop (p+1)))):
    Rt a T (aY (cU 1 (cQ a.Tokens "take" (Zt a) [] (zV 0) aW)) rest (some (.loc 0)::y::ρ) (aH a T p k b)) (tk (T.drop p) f):=by
 S![gH,wO,sY];u! tk;cases h:T.drop p with
 |nil=>rw[Bj h];~\(_,rfl)
 |cons t r=>
  rw[Bh O h];h!:=H t r h;rw[vW h]at this;~this
T! abx{f:Tk->List Tk->Pr}(O:jf T){y z:Option Z}{rest:aJ->aC->aU}(H:∀t r,T.drop p=t::r->Rt a T (rest (some (.loc 0)::y::some (.d (tS t))::ρ) (aH a T (p+1) k b)) (f t (T.drop (p+1)))):
    Rt a T (aY (cU 2 (cQ a.Tokens "take" (Zt a) [] (zV 0) aW)) rest (some (.loc 0)::y::z::ρ) (aH a T p k b)) (tk (T.drop p) f):=by
 S![gH,Og,sY];u! tk;cases h:T.drop p with
 |nil=>rw[Bj h];~\(_,rfl)
 |cons t r=>
  rw[Bh O h];h!:=H t r h;rw[vW h]at this;~this
T! Rn{s:Str}{c:Tk}{A rest:aJ->aC->aU}{P Q:Pr}(hc:az s=c)(h1:Rt a T (A (some (.loc 0)::ρ) (aH a T p k b)) P)(h2:Rt a T (rest (some (.loc 0)::ρ) (aH a T p k b)) Q):
    Rt a T (aY (dH (il tB (z2 cX (cQ a.Tokens "ahead" (Za a) [.int 0] (zV 0) aW) (zD (dC (.str s))))) A f9) rest (some (.loc 0)::ρ) (aH a T p k b)) (bif aQ (nx (T.drop p)) c then P else Q):=by
 subst hc;cases e:aQ (nx (T.drop p)) (az s)with
 |true=>(repeat(first|walk_at "zw"|S![yS,e]));~h1.seq
 |false=>(repeat(first|walk_at "zw"|S![yS,e]));~h2
T! Rm{s:Str}{t c:Tk}{A rest:aJ->aC->aU}{P Q:Pr}(hc:az s=c)(h1:Rt a T (A (some (.loc 0)::some (.d (tS t))::ρ) (aH a T p k b)) P)(h2:Rt a T (rest (some (.loc 0)::some (.d (tS t))::ρ) (aH a T p k b)) Q):
    Rt a T (aY (dH (zB (b1 tB (d2 cX &1 (dC (.str s))))) A f9) rest (some (.loc 0)::some (.d (tS t))::ρ) (aH a T p k b)) (bif aQ t c then P else Q):=by
 subst hc;cases e:aQ t (az s)with
 |true=>(repeat(first|walk_at "zw"|S![e]));~h1.seq
 |false=>(repeat(first|walk_at "zw"|S![e]));~h2
T! VJ{F:Z!}{G:PF}(hF:eU a T F G):Rt a T (fD (zZ F (aN (zV 0) aW)) (some (.loc 0)::ρ) (aH a T p k b)) (G (T.drop p) k b):=by
 h! h:=hF p k b;S![uX,wV,oG,wU,ph,lV];cases e:G (T.drop p) k b with
 |bad=>trivial
 |no=>rw[e]at h;o!⟨S,h⟩:=h;rw[h];~\(_,rfl)
 |ok d r k' b'=>rw[e]at h;o!⟨p',e',h⟩:=h;rw[h];~\(p',e',rfl)
T! aeS{F:Z!}{G:PF}(hF:eU a T F G){x:Ev->R D}{d0:D}(h0:x (dB (some (.loc 0)::ρ))=.ok d0):
    Rt a T (fD (zF bK (aN (zD x) (aN (zZ F (aN (zV 0) aW)) aW))) (some (.loc 0)::ρ) (aH a T p k b)) (jR (λd=>.tup [d0,d]) (G (T.drop p) k b)):=by
 h! h:=hF p k b;S![uX,qU,pU,h0,oF,wV,oG,wU,ph,lV];u! jR fU;cases e:G (T.drop p) k b with
 |bad=>trivial
 |no=>rw[e]at h;o!⟨S,h⟩:=h;rw[h];~\(_,rfl)
 |ok d r k' b'=>rw[e]at h;o!⟨p',e',h⟩:=h;rw[h];r!\(p',e',?_);walk_at "zw"
T! aeR{F:Z!}{G:PF}(hF:eU a T F G){x y:Ev->R D}{d0 d1:D}(h0:x (dB (some (.loc 0)::ρ))=.ok d0)(h1:y (dB (some (.loc 0)::ρ))=.ok d1):
    Rt a T (fD (zF bK (aN (zD x) (aN (zD y) (aN (zZ F (aN (zV 0) aW)) aW)))) (some (.loc 0)::ρ) (aH a T p k b)) (jR (λd=>.tup [d0,d1,d]) (G (T.drop p) k b)):=by
 h! h:=hF p k b;S![uX,qU,pU,h0,h1,oF,wV,oG,wU,ph,lV];u! jR fU;cases e:G (T.drop p) k b with
 |bad=>trivial
 |no=>rw[e]at h;o!⟨S,h⟩:=h;rw[h];~\(_,rfl)
 |ok d r k' b'=>rw[e]at h;o!⟨p',e',h⟩:=h;rw[h];r!\(p',e',?_);walk_at "zw"
T! apz(O:jf T){F:Z!}{G:PF}(hF:eU a T F G):eU a T (λzs S=>bw (Ez a (Zn a) F (Zl a) S.length (bG 2 zs) S)) (Bt G):=by
 intro p k b;r! Rt.fin ?_;show Rt a T (Ez a (Zn a) F (Zl a) 1 [some (.loc 0),none] (aH a T p k b)) _;u! Ez Bt;r! acz O d? ?_;r! xR hF λd p k b=>?_;~abv O d?
end
end WR
namespace WR
open PySem L2 P2 WP TM T2 PySem.NumText
local macro_rules|`(tactic|walk_at "zw")=>`(tactic|simp only[yV,Yg,lV,X7,yU,Ye,agB,agD,agE,agp,X8,agq,oF,Yh,gH,sZ,uX,wO,Og,CP,agF,wV,ph,oG,wU,agI,pU,agG,wQ,wR,agH,qU,agi,Oe,agj,X6,Ig,Ii,Ih,agy,agt,Yb,Yc,Yd,agz,agA,agC,agw,agu,agk,agx,agv,agl,agm,iY,Hj,ie,qN,lu,ju,fL,aV,M3,wH,MN,Ng,Hm,M9,ou,qO,uK,XJ,XM,cond_true,cond_false,Bool.not_true,Bool.not_false,List.length_map])
section
variable{a:Ad}{T:List Tk}{p k b:Nat}{ρ:aJ}
T! ajt{ks:List Str}{cs:List Tk}{t:Tk}{fx:Ev->R D}{A rest:aJ->aC->aU}{P Q:Pr}(hx:∀e,fx e=.ok (.tup (ks.map D.str)))(hs:PyData.strOk (aq t)=true)(hk:∀k∈ks,PyData.strOk k=true)(hc:ks.map az=cs)
    (h1:Rt a T (A (some (.loc 0)::some (.d (tS t))::ρ) (aH a T p k b)) P)(h2:Rt a T (rest (some (.loc 0)::some (.d (tS t))::ρ) (aH a T p k b)) Q):
    Rt a T (aY (dH (zB (b1 tB (d2 cT &1 fx))) A f9) rest (some (.loc 0)::some (.d (tS t))::ρ) (aH a T p k b)) (bif cs.any (aQ t)then P else Q):=by
 subst hc;h! e0:=afE t ks hs hk;cases e:(ks.map az).any (aQ t)with
 |true=>rw[e]at e0;(repeat(first|walk_at "zw"|S![hx,e0]));~h1.seq
 |false=>rw[e]at e0;(repeat(first|walk_at "zw"|S![hx,e0]));~h2
T! ajv{ks:List Str}{cs:List Tk}{t:Tk}{y:Option Z}{fx:Ev->R D}{rest:aJ->aC->aU}{P:Pr}(hx:∀e,fx e=.ok (.tup (ks.map D.str)))(hs:PyData.strOk (aq t)=true)(hk:∀k∈ks,PyData.strOk k=true)(hc:ks.map az=cs)
    (h1:Rt a T (rest (some (.loc 0)::y::some (.d (tS t))::ρ) (aH a T p k b)) P)(hy:∃d,y=some (.d d)):
    Rt a T (aY (dH (zB (b1 tB (d2 yr &2 fx))) (λρ S=>leave (U! (dB ρ)) S) f9) rest (some (.loc 0)::y::some (.d (tS t))::ρ) (aH a T p k b)) (bif cs.any (aQ t)then P else .no):=by
 subst hc;o!⟨d,rfl⟩:=hy;h! e0:=arl t ks hs hk;cases e:(ks.map az).any (aQ t)with
 |true=>rw[e]at e0;(repeat(first|walk_at "zw"|S![hx,e0]));~h1
 |false=>rw[e]at e0;(repeat(first|walk_at "zw"|S![hx,e0]));~\(_,rfl)
T! aju{s:Str}{c:Tk}{A rest:aJ->aC->aU}{P Q:Pr}(hc:az s=c)(h1:Rt a T (A (some (.loc 0)::ρ) (aH a T p k b)) P)(h2:Rt a T (rest (some (.loc 0)::ρ) (aH a T p k b)) Q):
    Rt a T (aY (dH (il tB (z2 fY (cQ a.Tokens "ahead" (Za a) [] (zV 0) (aN (zD #1) aW)) (zD (dC (.str s))))) A f9) rest (some (.loc 0)::ρ) (aH a T p k b)) (bif aQ (nx (T.drop p).tail) c then Q else P):=by
 subst hc;cases e:aQ (nx (T.drop p).tail) (az s)with
 |true=>S![gH,CP,wR,wQ,agh];(repeat(first|walk_at "zw"|S![e]));~h2
 |false=>S![gH,CP,wR,wQ,agh];(repeat(first|walk_at "zw"|S![e]));~h1.seq
T! aqy(e:Ev):(dA bK (ak #"back" (ak #"on" (ak #"ago" (ak #"until" aB))))) e=.ok (.tup (([Str.ofString "back",Str.ofString "on",Str.ofString "ago",Str.ofString "until"]:List Str).map D.str)):=by
 S![lu,fL,ju,iY,aV,Yd];rfl
T! afv(x y:Str)(e:Ev):(dA bK (ak (dC (.str x)) (ak (dC (.str y)) aB))) e=.ok (.tup (([x,y]:List Str).map D.str)):=by
 S![lu,fL,ju,iY,aV,Yb];rfl
T! amm(O:jf T):PyData.strOk (aq (nx (T.drop p)))=true:=by
 cases h:T.drop p with
 |nil=>decide+kernel
 |cons t r=>~O.s t (mem_of h)
T! apE(O:jf T){Fw Fo Fs:R!}(hW:∀t∈T,Fw [tS t,.int 1,.int 9]=uG a (wW t 1 9))(hO:∀t∈T,Fo [tS t]=G8 a (aq t))(hS:∀t∈T,Fs [tS t]=outF a (pQ t)){F:Z!}{G:PF}(hF:eU a T F G):
    eU a T (λzs S=>bw (FJ a Fw Fo Fs (Za a) F (Zb a) (Zt a) S.length (bG 2 zs) S)) (wD G):=by
 intro p k b;r! Rt.fin ?_;show Rt a T (FJ a Fw Fo Fs (Za a) F (Zb a) (Zt a) 1 [some (.loc 0),none] (aH a T p k b)) _;u! FJ wD;r! Rn d? (VJ hF) ?_;r! An ?_;r! ajw O λw r h=>?_;h! hw:=mem_of h;r! Rm d? \(_,rfl,by walk_at "zw") ?_;r! ajt aqy (O.s w hw) k? d? ?_ ?_
 ·u! tk
  cases h2:T.drop (p+1)with
  |nil=>
   S![uX,qU,oG,pU,Ii,Ih,Ig,qO,oF,lV,sY];rw[Bj h2];~\(_,rfl)
  |cons t r2=>
   S![uX,qU,oG,pU,Ii,Ih,Ig,qO,oF,lV,sY];rw[Bh O h2];h! e:=hW t (mem_of h2);u! opt;cases e2:wW t 1 9 with
   |none=>rw[e2]at e;u! uG at e;(repeat(first|walk_at "zw"|S![e]));~\(_,rfl)
   |some v=>rw[e2]at e;u! uG at e;(repeat(first|walk_at "zw"|S![e]));~\(_,vW h2,rfl)
 r! Rm d? ?_ ?_
 ·u! tk
  cases h2:T.drop (p+1)with
  |nil=>
   S![uX,qU,oG,pU,iY,oF,lV,sY];rw[Bj h2];~\(_,rfl)
  |cons t r2=>
   S![uX,qU,oG,pU,iY,oF,lV,sY];rw[Bh O h2];h! e:=hO t (mem_of h2);u! G8 at e;rw[lZ]at e;try dsimp only
   cases e2:TR.kh t with
   |false=>rw[e2,if_neg (by simp)]at e;(repeat(first|walk_at "zw"|S![e]));~\(_,rfl)
   |true=>rw[e2,if_pos rfl]at e;(repeat(first|walk_at "zw"|S![e]));~\(_,vW h2,rfl)
 r! Rm d? (aeS hF rfl) ?_;h! e:=hS w hw;u! opt;cases e2:pQ w with
 |none=>rw[e2]at e;u! outF at e;(repeat(first|walk_at "zw"|S![e]));~\(_,rfl)
 |some v=>rw[e2]at e;u! outF at e;(repeat(first|walk_at "zw"|S![e]));~\(_,rfl,rfl)
T! apD(O:jf T){Fs:R!}(hS:∀t∈T,Fs [tS t]=outF a (pQ t)){F:Z!}{G:PF}(hF:eU a T F G):
    eU a T (λzs S=>bw (Fz a Fs (Za a) F (Zt a) (Ze a) (Zb a) S.length (bG 2 zs) S)) (uH G):=by
 intro p k b;r! Rt.fin ?_;show Rt a T (Fz a Fs (Za a) F (Zt a) (Ze a) (Zb a) 1 [some (.loc 0),none] (aH a T p k b)) _;u! Fz uH;r! aju d? (VJ hF) ?_;u! tk;cases h:T.drop p with
 |nil=>
  rw[gH];S![wO,qU,oG,sY];rw[Bj h];~\(_,rfl)
 |cons t r=>
  rw[gH];S![wO,qU,oG,sY];rw[Bh O h];h! e:=hS t (mem_of h);u! opt;cases e2:pQ t with
  |none=>rw[e2]at e;u! outF at e;S![lV,ph,Oe,e,Yh,X7,Yg,Ye];~\(_,rfl)
  |some v=>
   rw[e2]at e;u! outF at e;S![lV,ph,Oe,e,oF,yV,yU];try dsimp only
   rw[<-vW h];r! Ro O d? ?_;r! An ?_;~aeR hF rfl rfl
T! XX{f:K!}{B K R:aJ->aC->aU}{S:aC}:lA (mJ (aY (fO f) B ρ S) K) R=aY (fO f) (λρ S=>lA (mJ (B ρ S) K) R) ρ S:=by
 rw[gH,gH,sZ];cases f ρ S<;>rfl
T! arD{f:K!}{B K R:aJ->aC->aU}{S:aC}{x y z:Option Z}:lA (mJ (aY (cU 2 f) B (x::y::z::ρ) S) K) R=aY (cU 2 f) (λρ S=>lA (mJ (B ρ S) K) R) (x::y::z::ρ) S:=by
 rw[gH,gH,Og];cases f (x::y::z::ρ) S<;>rfl
T! afT{f:K!}{K R:aJ->aC->aU}{S:aC}{x y:Option Z}:lA (mJ (cU 1 f (x::y::ρ) S) K) R=aY (cU 1 f) (λρ S=>lA (K ρ S) R) (x::y::ρ) S:=by
 rw[gH,wO];cases f (x::y::ρ) S<;>rfl
T! abw{F:Z!}{G:PF}(hF:eU a T F G){f:D->PF}{y0:Option Z}{x y:Ev->R D}{d0 d1:D}(h0:x (dB (some (.loc 0)::y0::ρ))=.ok d0)(h1:y (dB (some (.loc 0)::y0::ρ))=.ok d1){rest:aJ->aC->aU}
    (H:∀d p k b,Rt a T (rest (some (.loc 0)::some (.d (.tup [d0,d1,d]))::ρ) (aH a T p k b)) (f d (T.drop p) k b)):
    Rt a T (aY (cU 1 (zF bK (aN (zD x) (aN (zD y) (aN (zZ F (aN (zV 0) aW)) aW))))) rest (some (.loc 0)::y0::ρ) (aH a T p k b)) (fU (G (T.drop p) k b) f):=by
 h! h:=hF p k b;S![gH,wO,qU,pU,h0,h1,oF,wV,oG,wU,ph,lV];u! fU;cases e:G (T.drop p) k b with
 |bad=>trivial
 |no=>rw[e]at h;o!⟨S,h⟩:=h;rw[h];~\(_,rfl)
 |ok d r k' b'=>
  rw[e]at h;o!⟨p',e',h⟩:=h;rw[h];subst e';S![lV,X6,Yc,oF,yV,yU];~H _ _ _ _
T! ab8(O:jf T){F:Z!}{G:PF}(hF:eU a T F G):∀(n:Nat) (d:D) (x:Option Z) (p k b:Nat),
    Rt a T (lA (lB (il tB (z2 cT (cQ a.Tokens "ahead" (Za a) [.int 0] (zV 0) aW) (zD (dA bK (ak #"+" (ak #"-" aB)))))) (PX a F (Za a) (Zt a) (Zb a)) n [some (.loc 0),some (.d d),x] (aH a T p k b)) (fD (zD &1))) (o4 G n d (T.drop p) k b)
 |0,_,_,_,_,_=>trivial
 |n+1,d,x,p,k,b=>by
  h! e0:=afE (nx (T.drop p)) [Str.ofString "+",Str.ofString "-"] (amm O) k?;rw[show([Str.ofString "+",Str.ofString "-"]:List Str).map az=[[43],[45]]by decide]at e0;u! lB o4;S![wR,wQ,yS,pU,afv,lV,oF,e0,wH,yV];cases e:[[43],[45]].any (aQ (nx (T.drop p)))with
  |false=>
   rw[if_neg (by simp)];cases x with
   |none=>~\(_,rfl,by walk_at "zw")
   |some x=>c! x<;>~\(_,rfl,by walk_at "zw")
  |true=>
   rw[if_pos rfl,cond_true];u! PX;rw[arD];r! abx O λt r h=>?_;try dsimp only
   rw[XX];r! An ?_;try dsimp only
   rw[afT];r! abw hF rfl rfl λe p k b=>?_;~ab8 O hF n _ _ p k b
T! apF(O:jf T){F:Z!}{G:PF}(hF:eU a T F G):eU a T (λzs S=>bw (FN a F (Za a) (Zt a) (Zb a) S.length (bG 3 zs) S)) (Bu G):=by
 intro p k b;r! Rt.fin ?_;show Rt a T (FN a F (Za a) (Zt a) (Zb a) 1 [some (.loc 0),none,none] (aH a T p k b)) _;u! FN Bu;r! xR hF λd p k b=>?_;rw[gH];~ab8 O hF 100 d none p k b
T! apA(O:jf T){F:Z!}{G:PF}(hF:eU a T F G):eU a T (λzs S=>bw (EY a (Zb a) F (Zt a) S.length (bG 3 zs) S)) (yD G):=by
 intro p k b;r! Rt.fin ?_;show Rt a T (EY a (Zb a) F (Zt a) 1 [some (.loc 0),none,none] (aH a T p k b)) _;u! EY yD;r! An ?_;r! xR hF λd p k b=>?_;r! abx O λt r h=>?_;r! ajv (afv _ _) (O.s t (mem_of h)) k? d? ?_ \(_,rfl);~aeR hF rfl rfl
T! Sv(O:jf T){s:Str}{c:Tk}(hc:az s=c){F:Z!}{G:PF}(hF:eU a T F G):∀(n:Nat) (d:D) (p k b:Nat),
    Rt a T (lA (lB (il tB (z2 cX (cQ a.Tokens "ahead" (Za a) [.int 0] (zV 0) aW) (zD (dC (.str s))))) (aY (fO (cQ a.Tokens "expect" (Ze a) [] (zV 0) (aN (zD (dC (.str s))) aW))) (aY (fO (cQ a.Tokens "begin_part" (Zb a) [] (zV 0) aW)) (cU 1 (zF bK (aN (zD (dC (.str s))) (aN (zD &1) (aN (zZ F (aN (zV 0) aW)) aW))))))) n [some (.loc 0),some (.d d)] (aH a T p k b)) (fD (zD &1))) (jt c s G n d (T.drop p) k b)
 |0,_,_,_,_=>trivial
 |n+1,d,p,k,b=>by
  u! lB jt;S![wR,wQ,yS,pU,iY,lV,oF,XJ,hc,wH,yV];cases e:aQ (nx (T.drop p)) c with
  |false=>
   rw[if_neg (by simp)];~\(_,rfl,by walk_at "zw")
  |true=>
   rw[if_pos rfl,cond_true];rw[XX];r! Ro O hc ?_;try dsimp only
   rw[XX];r! An ?_;try dsimp only
   rw[afT];r! abw hF rfl rfl λe p k b=>?_;~Sv O hc hF n _ p k b
T! apy(O:jf T){F:Z!}{G:PF}(hF:eU a T F G):eU a T (λzs S=>bw (Ey a F (Za a) (Ze a) (Zb a) S.length (bG 2 zs) S)) (pO [97,110,100] "and" G):=by
 intro p k b;r! Rt.fin ?_;show Rt a T (Ey a F (Za a) (Ze a) (Zb a) 1 [some (.loc 0),none] (aH a T p k b)) _;u! Ey pO aad;r! xR hF λd p k b=>?_;rw[gH];~Sv O d? hF 100 d p k b
T! apC(O:jf T){F:Z!}{G:PF}(hF:eU a T F G):eU a T (λzs S=>bw (Fy a F (Za a) (Ze a) (Zb a) S.length (bG 2 zs) S)) (pO [111,114] "or" G):=by
 intro p k b;r! Rt.fin ?_;show Rt a T (Fy a F (Za a) (Ze a) (Zb a) 1 [some (.loc 0),none] (aH a T p k b)) _;u! Fy pO aae;r! xR hF λd p k b=>?_;rw[gH];~Sv O d? hF 100 d p k b
T! apB(O:jf T){Fn Fo Fc:Z!}{Gn Go Gc:PF}(hn:eU a T Fn Gn)(ho:eU a T Fo Go)(hc:eU a T Fc Gc):eU a T (λzs S=>bw (Fe a (Za a) (Ze a) (Zb a) Fn (Zn a) Fo (Zl a) Fc S.length (bG 2 zs) S)) (yE Gn Go Gc):=by
 intro p k b;r! Rt.fin ?_;show Rt a T (Fe a (Za a) (Ze a) (Zb a) Fn (Zn a) Fo (Zl a) Fc 1 [some (.loc 0),none] (aH a T p k b)) _;u! Fe yE;r! Rn d? ?_ ?_
 ·r! Ro O d? ?_
  r! An ?_;~aeS hn rfl
 r! Rn d? ?_ ?_
 ·r! acz O d? ?_
  r! xR ho λd p k b=>?_;~abv O d?
 ~VJ hc
T! s_end(O:jf T){F:Z!}{G:PF}(hF:eU a T F G):eU a T (λzs S=>bw (FP a F (Zx a) S.length (bG 2 zs) S)) (λr k b=>pEnd (G r k b)):=by
 intro p k b;r! Rt.fin ?_;show Rt a T (FP a F (Zx a) 1 [some (.loc 0),none] (aH a T p k b)) _;u! FP pEnd;r! xR hF λd p k b=>?_;rw[gH,sZ,uW d? ph];show Rt a T (lA (toZ (Zx a [.loc 0] (aH a T p k b)) _) _) _;rw[akX];cases h:T.drop p with
 |nil=>~\(p,h,rfl)
 |cons t r=>
  h!:aQ (nx (t::r)) []=false:=eq_nil (O.n t (mem_of h));rw[this];~\(_,rfl)
T! ak2{Fp:R!}{s:Str}(h:Fp [.str s]=.ok (.lst (T.map tS))):bw (v5 a Fp 1 [some (.loc 0),some (.d (.str s))] [.ob a.Tokens []])=.ok (.d .non) (aH a T 0 0 0):=by
 u! v5;h! f0:∀(f:Str) (v:D) (fs:List (Str×Z)) (ρ:aJ),fs.length<1000->uZ a.Tokens (zV 0) f (zD (dC v)) (some (.loc 0)::ρ) [.ob a.Tokens fs]=.nx (some (.loc 0)::ρ) [.ob a.Tokens (uI f (.d v) fs)]:=λf v fs ρ hl=>by
  u! uZ;show(if a.Tokens=a.Tokens/\fs.length<1000 then _ else _)=_;rw[if_pos \(rfl,hl)];rfl
 h! f1:uZ a.Tokens (zV 0) "tokens" (zD (dA Fp (ak &1 aB))) [some (.loc 0),some (.d (.str s))] [.ob a.Tokens []]=.nx [some (.loc 0),some (.d (.str s))] [.ob a.Tokens (uI "tokens" (.d (.lst (T.map tS))) [])]:=by
  u! uZ;S![pU,Ii,Ih,Ig,lu,fL,ju,qO,aV,h,oF,lV,yV,wU];show(if a.Tokens=a.Tokens/\(0<1000)then _ else _)=_;rw[if_pos \(rfl,d?)];rfl
 rw[gH,f1,yU,gH,f0 _ _ _ _ (Nat.le_of_ble_eq_true rfl),yU,gH,f0 _ _ _ _ (Nat.le_of_ble_eq_true rfl),yU,f0 _ _ _ _ (Nat.le_of_ble_eq_true rfl),X8];rfl
D! acZ(a:Ad):Pr->R D->Prop
 |.ok d _ _ _,x=>x=.ok d
 |.no,x=>x=.ex a.NoText ["row"] [.int 1]
 |.bad,_=>True
T! akV{Fp:R!}{s:Str}(h:Fp [.str s]=.ok (.lst (T.map tS))){F:Z!}{G:PF}(hF:eU a T F G):
    acZ a (G T 0 0) (clo (bw (Fd a (λzs S=>bw (v5 a Fp S.length (bG 2 zs) S)) F ([]:aC).length (bG 1 ([D.str s].map .d)) []))):=by
 h! e:bw (Fd a (λzs S=>bw (v5 a Fp S.length (bG 2 zs) S)) F ([]:aC).length (bG 1 ([D.str s].map .d)) [])=bw (toZ (F [.loc 0] (aH a T 0 0 0)) .rt):=by
  u! Fd;show bw (toZ (zZ F (aN (CV a.Tokens _ (aN (zD &0) aW)) aW) [some (.d (.str s))] []) .rt)=_;rw[wV,oG];h! e1:CV a.Tokens (λzs S=>bw (v5 a Fp S.length (bG 2 zs) S)) (aN (zD &0) aW) [some (.d (.str s))] []=.ok (.loc 0) (aH a T 0 0 0):=by
   u! CV
   show(match bw (v5 a Fp 1 [some (.loc 0),some (.d (.str s))] [.ob a.Tokens []])with
    |.ok (.d .non) S2=>RX.ok (Z.loc 0) S2
    |.ex c ns ds S2=>.ex c ns ds S2
    |_=>.bad)=_
   rw[ak2 h]
  rw[e1];rfl
 rw[e];h! q:=hF 0 0 0;rw[List.drop_zero]at q;cases z:G T 0 0 with
 |bad=>trivial
 |no=>rw[z]at q;o!⟨S,q⟩:=q;rw[q];rfl
 |ok d r k b=>rw[z]at q;o!⟨p,e',q⟩:=q;rw[q];rfl
end
end WR
namespace WR
open PySem L2 P2 WP TM T2 PySem.NumText
variable{a:Ad}
T! alo{Fr:R!}(hr:∀z:Str,z.length<=1000->Fr [.str z]=outF a (oA (az z)))(t:Tk)(ht:t.length<=1000):aL (KQ a Fr (aM 2 [tS t]))=outF a (pQ t):=by
 h! h:=hr (aq t) (by rw[qK];~ht);rw[lZ]at h;u! KQ pQ;cases e:oA t with
 |none=>
  rw[e]at h;u! outF at h;iterate 4 (walk_at "den";try S![h])
  rfl
 |some v=>
  o!⟨p,q⟩:=v;rw[e]at h;u! outF at h;dsimp only at h;h! i0:aO (.tup [D.int p,D.int q]) (.int 0)=.ok (.int p):=rfl;h! i1:aO (.tup [D.int p,D.int q]) (.int 1)=.ok (.int q):=rfl;h! ap:xE [.int p]=.ok (.int (p.natAbs:Nat)):=by
   rw[U8]
   congr 2
   split<;>om
  generalize hw:D.tup [D.int p,D.int q]=w at h i0 i1;h! ha:(if p<0 then -p else p)=((p.natAbs:Nat):Int):=by split<;>om
  by_cases h1:p.natAbs<1000000000
  ·h! uh:¬(1000000000:Int)<=((p.natAbs:Nat):Int):=by om
   by_cases h2:q<1000000
   ·h! xW:¬(1000000:Int)<=q:=by om
    iterate 7 (walk_at "den";try S![h,i0,i1,ha,uh,xW,decide_false])
    rw[if_pos \(h1,h2)];u! outF;rw[<-hw]
   ·h! xW:(1000000:Int)<=q:=by om
    iterate 7 (walk_at "den";try S![h,i0,i1,ha,uh,xW,decide_false,decide_true])
    rw[if_neg λz=>h2 z.2];rfl
  ·h! uh:(1000000000:Int)<=((p.natAbs:Nat):Int):=by om
   iterate 7 (walk_at "den";try S![h,i0,i1,ha,uh,decide_true])
   rw[if_neg λz=>h1 z.1];rfl
T! apn(c:Nat):Txt.contains (Str.ofString "abcdefghijklmnopqrstuvwxyz0123456789/") \(#[c])=dq c:=by
 rw[Ax];h! e:az (Str.ofString "abcdefghijklmnopqrstuvwxyz0123456789/")=[97,98,99,100,101,102,103,104,105,106,107,108,109,110,111,112,113,114,115,116,117,118,119,120,121,122,48,49,50,51,52,53,54,55,56,57,47]:=by decide
 rw[e];~TM.S5 k? k? (λc h=>by rw[Bool.eq_false_iff];u! dq;S![ne_eq,Bool.or_eq_true,Bool.and_eq_true,Nat.ble_eq];om) c
D! cJ(c:Nat):List Nat:=bif dq c then[c]else[32,c,32]
T! aoA(c:Nat):(nJ (b1 tB (d2 mX &0 #"abcdefghijklmnopqrstuvwxyz0123456789/")) &0 ((b8 #" " (b8 (d1 du &0) (b8 #" " iV))) Str.empty)) [.sh (.str \(#[c]))]=.ok (tS (cJ c)):=by
 h! h:=apn c;u! cJ;h! f1:d1 du &0 [.sh (.str \(#[c]))]=.ok (.str \(#[c])):=by
  rw[Hj,ou,aV,Ve,if_pos (by show 1<=sizeLine;decide)]
 cases e:dq c with
 |true=>
  rw[e]at h;iterate 3 (walk_at "den";try S![h])
  try rfl
 |false=>
  rw[e]at h;h! L:∀z:Str,(az z).length<=1000->z.length<=sizeLine:=λz hz=>size_of (by rw[jQ];om);h! s1:∀ρ:Ev,dC (.str " ") ρ=.ok (.str (Str.ofString " ")):=λ_=>rfl;h! e0:b1 tB (d2 mX &0 #"abcdefghijklmnopqrstuvwxyz0123456789/") [.sh (.str \(#[c]))]=.ok false:=by
   rw[qN,ie,ou,aV,iY,aV,Vh,h];rfl
  rw[Vb,e0,aV,if_neg (by simp)];rw[Vk (s1 _) (L _ (by rw[gD];decide)),Vk f1 (L _ (by rw[gD,gD];~Nat.le_of_ble_eq_true rfl)),Vk (s1 _) (L _ (by rw[gD,gD,gD];~Nat.le_of_ble_eq_true rfl)),Vl,if_pos (L _ (by rw[gD,gD,gD];~Nat.le_of_ble_eq_true rfl))];~congrArg (λz=>R.ok (D.str z)) (ext (by rw[gD,gD,gD];rfl))
T! aaD:∀l:List Str,az (Str.join (Str.ofString "") l)=(l.map az).flatten
 |[]=>rfl
 |[p]=>by simp[Str.join]
 |p::q::r=>by
  show az (p++Str.ofString ""++Str.join (Str.ofString "") (q::r))=_;rw[gD,gD,aaD (q::r),DY,List.append_nil];rfl
T! strs_map{α:Type}(f:α->Tk):∀l:List α,yR (l.map λc=>tS (f c))=some (l.map λc=>aq (f c))
 |[]=>rfl
 |x::r=>by
  show(yR (r.map λc=>tS (f c))).map (aq (f x):: ·)=_;rw[strs_map f r];rfl
T! aaI(kE:Ev)(h0:∀d,gV 0 d kE=some [.sh d]):∀L:List Tk,jA (gV 0) (b1 tB (d2 fY &0 #"")) &0 kE (L.map tS)=some ((L.filter λt=>!t.isEmpty).map tS)
 |[]=>rfl
 |t::r=>by
  h! e:(b1 tB (d2 fY &0 #"")) [.sh (tS t)]=.ok (!t.isEmpty):=by
   rw[qN,ie,ou,aV,iY,aV,XM,DY];c! t<;>rfl
  rw[List.map_cons];u! jA;rw[h0,Option.bind_some,e,aaI kE h0 r];c! t<;>rfl
T! acb:∀cs:List Nat,(cs.map λc=>(aq (cJ c)).length).sum<=3*cs.length
 |[]=>by simp
 |c::r=>by
  h!:=acb r;h! l:(aq (cJ c)).length<=3:=by rw[qK];u! cJ;cases dq c<;>simp
  rw[List.map_cons,List.sum_cons,List.length_cons];om
T! Ly:∀cs:List Nat,(cs.flatMap cJ).length<=3*cs.length
 |[]=>by simp
 |c::r=>by
  h!:=Ly r;h! l:(cJ c).length<=3:=by u! cJ;cases dq c<;>simp
  rw[List.flatMap_cons,List.length_append,List.length_cons];om
T! Sw(c:Nat):∀l:List Nat,(bF c l).length<=l.length+1
 |[]=>by simp[bF]
 |x::r=>by
  h!:=Sw c r;by_cases e:x=c;·subst e;rw[qQ,List.length_cons,List.length_cons];om
  ·cases q:bF c r with
   |nil=>~absurd q (yP c r)
   |cons p ps=>rw[q]at this;rw[uP e q];S![List.length_cons]at this⊢;om
T! Ma{c:Nat}:∀{l t:List Nat},t∈bF c l->(∀x∈t,x∈l)/\t.length<=l.length
 |[],t,h=>by
  rw[show bF c []=[[]]from rfl,List.mem_singleton]at h;subst h;simp
 |x::r,t,h=>by
  by_cases e:x=c
  ·subst e
   rw[qQ,List.mem_cons]at h;rcases h with rfl|h;·simp
   ·o!⟨h1,h2⟩:=Ma h
    ~\(λy hy=>List.mem_cons_of_mem _ (h1 y hy),by rw[List.length_cons];om)
  ·cases q:bF c r with
   |nil=>~absurd q (yP c r)
   |cons p ps=>
    rw[uP e q,List.mem_cons]at h;h! hp:=Ma (c:=c) (l:=r) (t:=p) (by rw[q];~List.mem_cons_self ..);rcases h with rfl|h
    ·r!\(λy hy=>?_,by rw[List.length_cons,List.length_cons];om)
     rcases List.mem_cons.mp hy with rfl|hy;·~List.mem_cons_self ..
     ·~List.mem_cons_of_mem _ (hp.1 y hy)
    ·o!⟨h1,h2⟩:=Ma (c:=c) (l:=r) (t:=t) (by rw[q];~List.mem_cons_of_mem _ h)
     ~\(λy hy=>List.mem_cons_of_mem _ (h1 y hy),by rw[List.length_cons];om)
end WR
namespace WS
open PySem L2 P2 WP TM T2 PySem.NumText WR WC
T! afp(c:Nat)(y:List Nat):∀x:List Nat,bF c (x++c::y)=bF c x++bF c y
 |[]=>by rw[List.nil_append,qQ];rfl
 |a::x=>by
  h! ih:=afp c y x;by_cases h:a=c
  ·subst h
   rw[List.cons_append,qQ,qQ,ih];rfl
  ·cases e:bF c x with
   |nil=>~absurd e (yP c x)
   |cons p ps=>
    rw[e]at ih;rw[List.cons_append,uP h ih,uP h e];rfl
D! pR(l:List Nat):List Tk:=(bF 32 l).filter λt=>!t.isEmpty
T! N5(x y:List Nat):pR (x++32::y)=pR x++pR y:=by
 u! pR;rw[afp,List.filter_append]
T! arw:pR []=[]:=rfl
T! afM(y:List Nat):pR (32::y)=pR y:=by
 h!:=N5 [] y;rw[arw]at this;~this
T! afN{w:List Nat}(h:32∉w)(h0:w≠[]):pR w=[w]:=by
 u! pR;rw[yO h];cases w with
 |nil=>~absurd rfl h0
 |cons c r=>rfl
T! XN(cs:List Nat):bQ cs=pR (cs.flatMap cJ):=rfl
T! adu(x:List Nat)(c:Nat)(y:List Nat):(x++c::y).flatMap cJ=x.flatMap cJ++(cJ c++y.flatMap cJ):=by
 rw[List.flatMap_append,List.flatMap_cons]
T! mH(x y:List Nat):bQ (x++32::y)=bQ x++bQ y:=by
 rw[XN,adu,show cJ 32=[32,32,32]from rfl];show pR (x.flatMap cJ++32::(32::(32::y.flatMap cJ)))=_;rw[N5,afM,afM];rfl
T! uV{c:Nat}(hc:dq c=false)(qC:c≠32)(x y:List Nat):bQ (x++c::y)=bQ x++[c]::bQ y:=by
 rw[XN,adu,show cJ c=[32,c,32]by u! cJ;rw[hc];rfl];show pR (x.flatMap cJ++32::([c]++32::y.flatMap cJ))=_;rw[N5,N5,afN (w:=[c]) g! (by simp)];rfl
T! aeU:∀{w:List Nat},(∀c∈w,dq c=true)->w.flatMap cJ=w
 |[],_=>rfl
 |c::r,h=>by
  rw[List.flatMap_cons,aeU λx hx=>h x (List.mem_cons_of_mem _ hx),show cJ c=[c]by u! cJ;rw[h c (List.mem_cons_self ..)];rfl];rfl
T! N6{w:List Nat}(h:∀c∈w,dq c=true)(h0:w≠[]):bQ w=[w]:=by
 rw[XN,aeU h];~afN (λz=>absurd (h 32 z) d?) h0
T! Cu:bQ []=[]:=rfl
T! wK(n:Nat):∀c∈num n,dq c=true:=λc hc=>by
 h!:=GR n c hc;u! dq;rw[Bool.or_eq_true,Bool.and_eq_true,Bool.and_eq_true,Nat.ble_eq,Nat.ble_eq,Nat.ble_eq,Nat.ble_eq];om
T! Bp{n:Int}(h:0<=n):dm n=num n.natAbs:=by
 u! dm;rw[if_neg o?]
T! uM{p q:Int}(h:Fq p q):∀c∈cB p q,dq c=true:=by
 u! cB;rw[Bp h.nn];split;·~wK _
 ·intro c hc
  rcases List.mem_append.mp hc with hc|hc;·~wK _ c hc
  ·rcases List.mem_cons.mp hc with rfl|hc
   ·decide
   ·~wK _ c hc
T! afP{p q:Int}(h:Fq p q):bQ (cB p q)=[cB p q]:=N6 (uM h) (by o!⟨c,r,e,_⟩:=Cj h;rw[e];simp)
T! HS{o c:Nat}(ho:dq o=false/\o≠32)(hc:dq c=false/\c≠32)(b:Bool){x:List Nat}{ts:List Tk}(h:bQ x=ts):bQ (brk o c b x)=dF [o] [c] b ts:=by
 subst h;u! brk dF;cases b with
 |false=>rfl
 |true=>
  rw[if_pos rfl,if_pos rfl];h! h1:=uV ho.1 ho.2 [] (x++[c]);h! h2:=uV hc.1 hc.2 x [];rw[List.nil_append,Cu,List.nil_append,h2,Cu]at h1;~h1
T! arR(w:Nat):bQ (az (wd w))=[az (wd w)]:=by
 u! wd;split;·decide
 ·split
  ·decide
  ·split<;>decide
T! Cv:∀{t:Tm},t.Ok->lq t->bQ t.tx=cA t
 |.num p q,h,_=>afP h
 |.here,_,_=>by show bQ (az "here")=[az "here"];decide
 |.fZ w n,h,_=>by
  h! h':1<=n/\n<=9:=h;show bQ (az (wd w)++32::dm n)=[az (wd w),dm n];rw[mH,arR,Bp o?,N6 (wK _) (GX _)];rfl
 |.at m,_,kw=>by
  h! hm:TR.kh m=true:=kw;o!⟨h1,h2,h3,h4⟩:=TR.agJ hm;show bQ (az "at"++32::m)=[az "at",m];rw[mH,show bQ (az "at")=[az "at"]by decide,N6 (w:=m) (λc hc=>by
   h!:=h3 c hc;u! dq;rw[Bool.or_eq_true,Bool.and_eq_true,Bool.and_eq_true,Nat.ble_eq,Nat.ble_eq,Nat.ble_eq,Nat.ble_eq];om) h1]
  rfl
 |.bin s x y,h,kw=>by
  show bQ (x.tx++32::(az (sg s)++32::brk 40 41 (decide (y.rk<2)) y.tx))=cA x++az (sg s)::dF [40] [41] (decide (y.rk<2)) (cA y);rw[mH,mH,Cv h.1 kw.1,HS \(rfl,d?) \(rfl,d?) _ (Cv h.2 kw.2),show bQ (az (sg s))=[az (sg s)]by c! s<;>decide];rfl
 |.times p q x,h,kw=>by
  show bQ (cB p q++32::([42]++32::brk 40 41 (decide (x.rk<3)) x.tx))=cB p q::[42]::dF [40] [41] (decide (x.rk<3)) (cA x);rw[mH,mH,afP h.1,HS \(rfl,d?) \(rfl,d?) _ (Cv h.2 kw),show bQ [42]=[[42]]by decide];rfl
 |.abs x,h,kw=>by
  show bQ ([97,98,115]++40::(x.tx++[41]))=az "abs"::[40]::(cA x++[[41]]);rw[uV rfl d?,uV (c:=41) rfl d? x.tx [],Cv (t:=x) h kw,Cu,show bQ [97,98,115]=[az "abs"]by decide];rfl
T! HW:∀{c:Cn},c.Ok->nY c->bQ c.tx=cY c
 |.cmp s x y,h,kw=>by
  show bQ (x.tx++32::(az (cg s)++32::y.tx))=cA x++az (cg s)::cA y;rw[mH,mH,Cv h.1 kw.1,Cv h.2 kw.2,show bQ (az (cg s))=[az (cg s)]by c! s<;>decide];rfl
 |.not c,h,kw=>by
  show bQ ([110,111,116]++32::brk 91 93 (decide (c.rk<3)) c.tx)=az "not"::dF [91] [93] (decide (c.rk<3)) (cY c);rw[mH,HS \(rfl,d?) \(rfl,d?) _ (HW (c:=c) h kw),show bQ [110,111,116]=[az "not"]by decide];rfl
 |.two s c e,h,kw=>by
  show bQ (brk 91 93 (decide (c.rk<bl s)) c.tx++32::(az (cw s)++32::brk 91 93 (decide (e.rk<lK s)) e.tx))=dF [91] [93] (decide (c.rk<bl s)) (cY c)++az (cw s)::dF [91] [93] (decide (e.rk<lK s)) (cY e);rw[mH,mH,HS \(rfl,d?) \(rfl,d?) _ (HW h.1 kw.1),HS \(rfl,d?) \(rfl,d?) _ (HW h.2 kw.2),show bQ (az (cw s))=[az (cw s)]by c! s<;>decide];rfl
T! aaq(t:Tm):2*eV t+1<=t.sz+jD t:=by
 induction t with
 |bin s x y gW iI=>
  h!:=x.pos;show 2*max (eV x) (eV y+if y.rk<2 then 1 else 0)+1<=x.sz+y.sz+1+(jD x+jD y);split<;>om
 |times p q x ih=>
  show 2*(eV x+if x.rk<3 then 1 else 0)+1<=x.sz+1+(jD x+1);split<;>om
 |abs x ih=>show 2*(eV x+1)+1<=x.sz+1+(jD x+1);om
 |_=>~Nat.le_refl _
T! ah3(c:Cn):2*gK c+3<=c.sz+gQ c/\(c.rk<3->2*gK c+5<=c.sz+gQ c):=by
 induction c with
 |cmp s x y=>
  h! h1:=aaq x;h! h2:=aaq y;h!:=x.pos;h!:=y.pos;r!\(?_,λh=>absurd h (by show¬(4:Int)<3;decide));show 2*max (eV x) (eV y)+3<=x.sz+y.sz+1+(jD x+jD y);om
 |not c ih=>
  r!\(?_,λh=>absurd h (by show¬(3:Int)<3;decide));show 2*(gK c+if c.rk<3 then 1 else 0)+3<=c.sz+1+gQ c;split;·h!:=ih.2 (by assumption);om
  ·h!:=ih.1;om
 |two s c e gW iI=>
  h! h1:=Cn.three c;h! h2:=Cn.three e;h! a:=gW.1;h! b:=iI.1;h! k:2*max (gK c+if c.rk<bl s then 1 else 0) (gK e+if e.rk<lK s then 1 else 0)+5<=c.sz+e.sz+1+(gQ c+gQ e):=by
   split<;>split<;>om
  ~\(by show 2*max _ _+3<=c.sz+e.sz+1+(gQ c+gQ e);om,λ_=>k)
T! aap{c:Cn}(hz:c.sz<=30)(ho:gQ c<=3):gK c<=15:=by
 h!:=(ah3 c).1;om
T! Bf:∀{t:Tm},t.Ok->lq t
 |.num _ _,_=>trivial
 |.here,_=>trivial
 |.fZ _ _,_=>trivial
 |.at _,h=>h.2.2.2
 |.bin _ _ _,h=>\(Bf h.1,Bf h.2)
 |.times _ _ x,h=>Bf (t:=x) h.2
 |.abs x,h=>Bf (t:=x) h
T! yj:∀{c:Cn},c.Ok->nY c
 |.cmp _ _ _,h=>\(Bf h.1,Bf h.2)
 |.not c,h=>yj (c:=c) h
 |.two _ _ _,h=>\(yj h.1,yj h.2)
T! anG{c:Cn}(h:c.Ok)(hz:c.sz<=30)(ho:gQ c<=3){cs:List Nat}(e:bQ cs=cY c):parse cs=.ok c.d [] c.sz 0:=by
 u! parse;rw[e];~apd h (yj h) hz (Nat.le_trans (aap hz ho) d?)
T! NZ(n:Nat)(y:List Nat):bQ (List.replicate n 32++y)=bQ y:=by
 induction n with
 |zero=>rfl
 |succ n ih=>
  h!:=mH [] (List.replicate n 32++y);rw[List.replicate_succ,List.cons_append];rw[List.nil_append,Cu,List.nil_append]at this;rw[this,ih]
T! afI(n:Nat)(x:List Nat):bQ (x++List.replicate n 32)=bQ x:=by
 induction n with
 |zero=>rw[List.replicate_zero,List.append_nil]
 |succ n ih=>
  rw[List.replicate_succ,mH];h!:=NZ n [];rw[List.append_nil,Cu]at this;rw[this,List.append_nil]
T! afK{c:Nat}(hc:dq c=false)(qC:c≠32)(i j:Nat)(x y:List Nat):bQ (x++(List.replicate i 32++c::(List.replicate j 32++y)))=bQ (x++c::y):=by
 rw[<-List.append_assoc,uV hc qC,afI,NZ,uV hc qC]
T! arv(n:Nat)(x y:List Nat):bQ (x++(List.replicate (n+1) 32++y))=bQ (x++32::y):=by
 rw[List.replicate_succ,List.cons_append,mH,NZ,mH]
end WS
namespace WS
open PySem L2 P2 WP TM T2 PySem.NumText WR WC
D! dU(r:List Tk):Nat:=(r.filter λt=>aQ t [40]||aQ t [91]).length
T! yC(t:Tk)(r:List Tk):dU (t::r)=(if(aQ t [40]||aQ t [91])=true then 1 else 0)+dU r:=by
 u! dU;rw[List.filter_cons];split<;>simp<;>om
T! uE(t:Tk)(r:List Tk):dU r<=dU (t::r):=by rw[yC];om
D! dN:Tm->Nat
 |.bin _ x y=>dN x+dN y+if y.rk<2 then 1 else 0
 |.times _ _ x=>dN x+if x.rk<3 then 1 else 0
 |.abs x=>dN x+1
 |_=>0
D! iJ:Cn->Nat
 |.cmp _ x y=>dN x+dN y
 |.not c=>iJ c+if c.rk<3 then 1 else 0
 |.two s c e=>(iJ c+if c.rk<bl s then 1 else 0)+(iJ e+if e.rk<lK s then 1 else 0)
section
variable{x:Pr}{f:D->PF}{d:D}{r r':List Tk}{k b k' b':Nat}
T! t8(h:fU x f=.ok d r' k' b'):∃e s k b,x=.ok e s k b/\f e s k b=.ok d r' k' b':=by
 cases x with
 |ok e s k b=>~\(e,s,k,b,rfl,h)
 |no=>c! h
 |bad=>c! h
T! LQ{g:D->D}(h:jR g x=.ok d r' k' b'):∃e,x=.ok e r' k' b'/\d=g e:=by
 o!⟨e,s,k,b,e1,e2⟩:=t8 h;c! e2;~\(e,e1,rfl)
T! uU{g:Tk->List Tk->Pr}(h:tk r g=.ok d r' k' b'):∃t s,r=t::s/\g t s=.ok d r' k' b':=by
 cases r with
 |nil=>c! h
 |cons t s=>~\(t,s,rfl,h)
T! lL{c:Bool}{y:Pr}(h:(bif c then x else y)=.ok d r' k' b'):(c=true/\x=.ok d r' k' b')\/(c=false/\y=.ok d r' k' b'):=by
 cases c with
 |true=>~.inl \(rfl,h)
 |false=>~.inr \(rfl,h)
T! zN{g:Nat->Pr}(h:bg k g=.ok d r' k' b'):g (k+1)=.ok d r' k' b':=by
 rcases lL h with⟨_,h⟩|⟨_,h⟩;·~h
 ·c! h
T! Tq{α:Type}{o:Option α}{g:α->Pr}(h:opt o g=.ok d r' k' b'):∃v,o=some v/\g v=.ok d r' k' b':=by
 cases o with
 |none=>c! h
 |some v=>~\(v,rfl,h)
T! Yr{c:Tk}{g:List Tk->Pr}(h:xp c r g=.ok d r' k' b'):∃s,r=c::s/\g s=.ok d r' k' b':=by
 o!⟨t,s,e,h⟩:=uU h;rcases lL h with⟨e2,h⟩|⟨_,h⟩;·~\(s,by rw[e,(oU _ _).mp e2],h)
 ·c! h
T! aa4{c:Tk}{g:List Tk->Nat->Pr}(h:en c r b g=.ok d r' k' b'):∃s,r=c::s/\g s (b+1)=.ok d r' k' b':=by
 o!⟨t,s,e,h⟩:=uU h;rcases lL h with⟨e2,h⟩|⟨_,h⟩
 ·rcases lL h with⟨_,h⟩|⟨_,h⟩
  ·~\(s,by rw[e,(oU _ _).mp e2],h)
  ·c! h
 ·c! h
T! acu{c:Tk}{e:D}(h:lv c e r k b=.ok d r' k' b'):r=c::r'/\d=e:=by
 o!⟨t,s,e1,h⟩:=uU h;rcases lL h with⟨e2,h⟩|⟨_,h⟩
 ·cases b with
  |zero=>c! h
  |succ b=>
   c! h;~\(by rw[e1,(oU _ _).mp e2],rfl)
 ·c! h
end
D! Sd(q:Int)(F:PF):Prop:=∀r k b d r' k' b',F r k b=.ok d r' k' b'->∃t:Tm,d=t.d/\dU r'+dN t+(if t.rk<q then 1 else 0)<=dU r
T! ap6{F:PF}(h:Sd 0 F):∀r k b d r' k' b',Bt F r k b=.ok d r' k' b'->∃t:Tm,d=t.d/\dU r'+dN t+1<=dU r:=by
 intro r k b d r' k' b' e;o!⟨s,jB,e9⟩:=aa4 e;clear e;subst jB;h! e:=e9;clear e9;o!⟨d1,s1,k1,b1,e1,e2⟩:=t8 e;o!⟨t,rfl,ho⟩:=h _ _ _ _ _ _ _ e1;o!⟨rfl,rfl⟩:=acu e2;r!\(t,rfl,?_);h! o1:=yC [40] s;rw[if_pos d?]at o1;rw[yC,if_neg d?]at ho;rw[o1];om
T! aqd{s:Tk}(h:[[43],[45]].any (aQ s)=true):∃v,tS s=.str (sg v):=by
 S![List.any_cons,List.any_nil,Bool.or_false,Bool.or_eq_true,oU]at h;rcases h with rfl|rfl;·~\(true,(Wv true).2.2)
 ·~\(false,(Wv false).2.2)
T! aip{s:Tk}(h:[[60],[61]].any (aQ s)=true):∃v,tS s=.str (cg v):=by
 S![List.any_cons,List.any_nil,Bool.or_false,Bool.or_eq_true,oU]at h;rcases h with rfl|rfl;·~\(true,(Qt true).2.2.2)
 ·~\(false,(Qt false).2.2.2)
T! arQ{w:Tk}(h:Bx.any (aQ w)=true):∃v,tS w=.str (wd v):=by
 S![Bx,List.any_cons,List.any_nil,Bool.or_false,Bool.or_eq_true,oU]at h;rcases h with rfl|rfl|rfl|rfl;·~\(0,congrArg D.str (ext d?))
 ·~\(1,congrArg D.str (ext d?))
 ·~\(2,congrArg D.str (ext d?))
 ·~\(3,congrArg D.str (ext d?))
T! ap8{F:PF}(h:∀r k b d r' k' b',F r k b=.ok d r' k' b'->∃t:Tm,d=t.d/\dU r'+dN t+1<=dU r):Sd 3 (wD F):=by
 intro r k b d r' k' b' e;rcases lL e with⟨_,e⟩|⟨_,e⟩
 ·o!⟨t,rfl,ho⟩:=h _ _ _ _ _ _ _ e
  ~\(t,rfl,by split<;>om)
 h! e:=zN e;o!⟨w,s,jB,e9⟩:=uU e;clear e;subst jB;h! e:=e9;clear e9;h! l0:=uE w s;rcases lL e with⟨_,e⟩|⟨_,e⟩
 ·c! e
  ~\(.here,rfl,by rw[if_neg (by show¬(3:Int)<3;decide)];show dU r'+0+0<=_;om)
 rcases lL e with⟨hw,e⟩|⟨_,e⟩
 ·o!⟨t,s,jB,e9⟩:=uU e
  clear e;subst jB;h! e:=e9;clear e9;h! l1:=uE t s;o!⟨v,_,e⟩:=Tq e;c! e;o!⟨u,hu⟩:=arQ hw;~\(.fZ u (v:Nat),by rw[hu];rfl,by rw[if_neg (by show¬(3:Int)<3;decide)];show dU r'+0+0<=_;om)
 rcases lL e with⟨_,e⟩|⟨_,e⟩
 ·o!⟨t,s,jB,e9⟩:=uU e
  clear e;subst jB;h! e:=e9;clear e9;h! l1:=uE t s;rcases lL e with⟨_,e⟩|⟨_,e⟩
  ·c! e
   ~\(.at t,rfl,by rw[if_neg (by show¬(3:Int)<3;decide)];show dU r'+0+0<=_;om)
  ·c! e
 rcases lL e with⟨_,e⟩|⟨_,e⟩
 ·o!⟨d1,e1,rfl⟩:=LQ e
  o!⟨t,rfl,ho⟩:=h _ _ _ _ _ _ _ e1;~\(.abs t,rfl,by rw[if_neg (by show¬(3:Int)<3;decide)];show dU r'+(dN t+1)+0<=_;om)
 ·o!⟨v,_,e⟩:=Tq e
  c! e;~\(.num v.1 v.2,rfl,by rw[if_neg (by show¬(3:Int)<3;decide)];show dU r'+0+0<=_;om)
T! ap7{F:PF}(h:Sd 3 F):Sd 2 (uH F):=by
 intro r k b d r' k' b' e;rcases lL e with⟨_,e⟩|⟨_,e⟩
 ·o!⟨f,s,jB,e9⟩:=uU e
  clear e;subst jB;h! e:=e9;clear e9;h! l0:=uE f s;o!⟨v,_,e⟩:=Tq e;o!⟨s,jB,e9⟩:=Yr e;clear e;subst jB;h! e:=e9;clear e9;h! l1:=uE [42] s;h! e:=zN e;o!⟨d1,e1,rfl⟩:=LQ e;o!⟨t,rfl,ho⟩:=h _ _ _ _ _ _ _ e1;~\(.times v.1 v.2 t,rfl,by rw[if_neg (by show¬(2:Int)<2;decide)];show dU r'+(dN t+if t.rk<3 then 1 else 0)+0<=_;om)
 ·o!⟨t,rfl,ho⟩:=h _ _ _ _ _ _ _ e
  r!\(t,rfl,?_);by_cases z:t.rk<3;·rw[if_pos z]at ho;split<;>om
  ·rw[if_neg o?];rw[if_neg z]at ho;~ho
T! afk{F:PF}(h:Sd 2 F):∀(m:Nat) (t:Tm) (r:List Tk) (k b:Nat) (d:D) (r':List Tk) (k' b':Nat),o4 F m t.d r k b=.ok d r' k' b'->∃u:Tm,d=u.d/\dU r'+dN u<=dU r+dN t
 |0,t,r,k,b,d,r',k',b',e=>by c! e
 |m+1,t,r,k,b,d,r',k',b',e=>by
  rcases lL e with⟨hs,e⟩|⟨_,e⟩
  ·o!⟨s,r1,jB,e9⟩:=uU e
   clear e;subst jB;h! e:=e9;clear e9;h! l0:=uE s r1;h! e:=zN e;o!⟨d1,s1,k1,b1,e1,e2⟩:=t8 e;o!⟨y,rfl,ho⟩:=h _ _ _ _ _ _ _ e1;o!⟨v,hv⟩:=aqd (s:=s) hs;rw[hv]at e2;o!⟨u,rfl,hu⟩:=afk h m (.bin v t y) s1 k1 b1 d r' k' b' e2;r!\(u,rfl,?_);h! hu':dU r'+dN u<=dU s1+(dN t+dN y+if y.rk<2 then 1 else 0):=hu;om
  ·c! e
   ~\(t,rfl,Nat.le_refl _)
T! ap9{F:PF}(h:Sd 2 F):Sd 0 (Bu F):=by
 intro r k b d r' k' b' e;o!⟨d1,s1,k1,b1,e1,e2⟩:=t8 e;o!⟨t,rfl,ho⟩:=h _ _ _ _ _ _ _ e1;o!⟨u,rfl,hu⟩:=afk h 100 t s1 k1 b1 d r' k' b' e2;r!\(u,rfl,?_);h!:¬u.rk<0:=by c! u<;>(show¬_<(0:Int);simp[Tm.rk])
 rw[if_neg this];om
T! afj:∀n:Nat,Sd 0 (f0 n).su/\Sd 2 (f0 n).pr/\Sd 3 (f0 n).sg/\(∀r k b d r' k' b',(f0 n).br r k b=.ok d r' k' b'->∃t:Tm,d=t.d/\dU r'+dN t+1<=dU r)
 |0=>\(λ_ _ _ _ _ _ _ e=>(by c! e),λ_ _ _ _ _ _ _ e=>(by c! e),λ_ _ _ _ _ _ _ e=>(by c! e),λ_ _ _ _ _ _ _ e=>(by c! e))
 |n+1=>by
  o!⟨h1,h2,h3,h4⟩:=afj n;~\(ap9 h2,ap7 h3,ap8 h4,ap6 h1)
D! Sc(q:Int)(F:PF):Prop:=∀r k b d r' k' b',F r k b=.ok d r' k' b'->∃c:Cn,d=c.d/\dU r'+iJ c+(if c.rk<q then 1 else 0)<=dU r
T! apG{F:PF}(h:Sd 0 F):Sc 3 (yD F):=by
 intro r k b d r' k' b' e;h! e:=zN e;o!⟨d1,s1,k1,b1,e1,e2⟩:=t8 e;o!⟨x,rfl,hx⟩:=h _ _ _ _ _ _ _ e1;o!⟨s,r1,jB,e9⟩:=uU e2;clear e2;subst jB;h! e2:=e9;clear e9;h! l0:=uE s r1;rcases lL e2 with⟨hs,e2⟩|⟨_,e2⟩
 ·o!⟨d2,e3,rfl⟩:=LQ e2
  o!⟨y,rfl,hy⟩:=h _ _ _ _ _ _ _ e3;o!⟨v,hv⟩:=aip hs;~\(.cmp v x y,by rw[hv];rfl,by rw[if_neg (by show¬(4:Int)<3;decide)];show dU r'+(dN x+dN y)+0<=_;om)
 ·c! e2
T! apO{Fn Fo Fc:PF}(hn:Sc 3 Fn)(ho:Sc 0 Fo)(hc:Sc 3 Fc):Sc 3 (yE Fn Fo Fc):=by
 intro r k b d r' k' b' e;rcases lL e with⟨_,e⟩|⟨_,e⟩
 ·o!⟨s,jB,e9⟩:=Yr e
  clear e;subst jB;h! e:=e9;clear e9;h! l0:=uE [110,111,116] s;h! e:=zN e;o!⟨d1,e1,rfl⟩:=LQ e;o!⟨c,rfl,h⟩:=hn _ _ _ _ _ _ _ e1;~\(.not c,rfl,by rw[if_neg (by show¬(3:Int)<3;decide)];show dU r'+(iJ c+if c.rk<3 then 1 else 0)+0<=_;om)
 rcases lL e with⟨_,e⟩|⟨_,e⟩
 ·o!⟨s,jB,e9⟩:=aa4 e
  clear e;subst jB;h! e:=e9;clear e9;o!⟨d1,s1,k1,b1,e1,e2⟩:=t8 e;o!⟨c,rfl,h⟩:=ho _ _ _ _ _ _ _ e1;o!⟨rfl,rfl⟩:=acu e2;r!\(c,rfl,?_);h! o1:=yC [91] s;rw[if_pos d?]at o1;rw[yC,if_neg (show¬(aQ [93] [40]||aQ [93] [91])=true by decide)]at h;rw[o1];split<;>om
 ·~hc _ _ _ _ _ _ _ e
T! ae1{F:PF}{s:Bool}{w:Str}(hw:w=cw s)(h:Sc (lK s) F):∀(m:Nat) (t:Cn) (r:List Tk) (k b:Nat) (d:D) (r':List Tk) (k' b':Nat),jt (wL s) w F m t.d r k b=.ok d r' k' b'->∃u:Cn,d=u.d/\dU r'+iJ u+(if u.rk<bl s then 1 else 0)<=dU r+iJ t+(if t.rk<bl s then 1 else 0)
 |0,t,r,k,b,d,r',k',b',e=>by c! e
 |m+1,t,r,k,b,d,r',k',b',e=>by
  rcases lL e with⟨_,e⟩|⟨_,e⟩
  ·o!⟨r1,jB,e9⟩:=Yr e
   clear e;subst jB;h! e:=e9;clear e9;h! l0:=uE (wL s) r1;h! e:=zN e;o!⟨d1,s1,k1,b1,e1,e2⟩:=t8 e;o!⟨y,rfl,ho⟩:=h _ _ _ _ _ _ _ e1;rw[hw]at e2;o!⟨u,rfl,hu⟩:=ae1 hw h m (.two s t y) s1 k1 b1 d r' k' b' (by rw[hw];~e2);r!\(u,rfl,?_);h! hz:¬(Cn.two s t y).rk<bl s:=by
    c! s;·show¬(1:Int)<1;decide
    ·show¬(2:Int)<2;decide
   rw[if_neg hz]at hu;h! hu':dU r'+iJ u+(if u.rk<bl s then 1 else 0)<=dU s1+((iJ t+if t.rk<bl s then 1 else 0)+(iJ y+if y.rk<lK s then 1 else 0))+0:=hu;om
  ·c! e
   ~\(t,rfl,Nat.le_refl _)
T! ae0{F:PF}{s:Bool}{w:Str}(hw:w=cw s)(h:Sc (lK s) F):Sc (bl s) (pO (wL s) w F):=by
 intro r k b d r' k' b' e;o!⟨d1,s1,k1,b1,e1,e2⟩:=t8 e;o!⟨t,rfl,ho⟩:=h _ _ _ _ _ _ _ e1;o!⟨u,rfl,hu⟩:=ae1 hw h 100 t s1 k1 b1 d r' k' b' e2;r!\(u,rfl,?_);h!:(if t.rk<bl s then 1 else 0)<=(if t.rk<lK s then 1 else 0):=by
  h!:bl s<lK s:=by c! s<;>decide
  split<;>split<;>om
 om
T! apM{F:PF}{q p:Int}(hq:p<=q)(h:Sc q F):Sc p F:=λr k b d r' k' b' e=>by
 o!⟨c,rfl,ho⟩:=h _ _ _ _ _ _ _ e;r!\(c,rfl,?_);h!:(if c.rk<p then 1 else 0)<=(if c.rk<q then 1 else 0):=by split<;>split<;>om
 om
T! aeZ:∀n:Nat,Sc 1 (f1 n).or/\Sc 2 (f1 n).and/\Sc 3 (f1 n).not
 |0=>\(λ_ _ _ _ _ _ _ e=>(by c! e),λ_ _ _ _ _ _ _ e=>(by c! e),λ_ _ _ _ _ _ _ e=>(by c! e))
 |n+1=>by
  o!⟨h1,h2,h3⟩:=aeZ n;~\(ae0 (s:=false) rfl h2,ae0 (s:=true) rfl h3,apO h3 (apM d? h1) (apG (afj 75).1))
T! ac4{cs:List Nat}{d:D}{r:List Tk}{k b:Nat}(h:parse cs=.ok d r k b):∃c:Cn,d=c.d/\iJ c<=dU (bQ cs):=by
 o!⟨d1,s1,k1,b1,e1,e2⟩:=t8 h;o!⟨c,rfl,ho⟩:=(aeZ 85).1 _ _ _ _ _ _ _ e1;cases s1 with
 |nil=>c! e2;~\(c,rfl,o?)
 |cons t s=>c! e2
end WS
namespace WS
open PySem L2 P2 WP TM T2 PySem.NumText WR WC
T! aeX(s:Bool):sg s≠Str.ofString "times":=by c! s<;>decide
T! dD{x y:List D}(h:D.tup x=D.tup y):x=y:=by c! h;rfl
T! str_inj{x y:Str}(h:D.str x=D.str y):x=y:=by c! h;rfl
T! zQ:∀(t u:Tm),t.d=u.d->dN t=dN u/\t.rk=u.rk
 |.bin s x y,u,h=>by
  cases u with
  |bin s' x' y'=>
   h! h':=dD h;rw[List.cons.injEq,List.cons.injEq,List.cons.injEq]at h';o!⟨_,h1,h2,_⟩:=h';o!⟨a1,a2⟩:=zQ x x' h1;o!⟨b1,b2⟩:=zQ y y' h2;r!\(?_,rfl);show dN x+dN y+(if y.rk<2 then 1 else 0)=dN x'+dN y'+(if y'.rk<2 then 1 else 0);rw[a1,b1,b2]
  |times p q x'=>
   h! h':=dD h;rw[List.cons.injEq]at h';~absurd (str_inj h'.1) (aeX s)
  |num p q=>~absurd (congrArg List.length (dD h)) (by simp)
  |here=>~absurd (congrArg List.length (dD h)) (by simp)
  |fZ w n=>~absurd (congrArg List.length (dD h)) (by simp)
  |«at» m=>~absurd (congrArg List.length (dD h)) (by simp)
  |abs x'=>~absurd (congrArg List.length (dD h)) (by simp)
 |.times p q x,u,h=>by
  cases u with
  |bin s' x' y'=>
   h! h':=dD h;rw[List.cons.injEq]at h';~absurd (str_inj h'.1).symm (aeX s')
  |times p' q' x'=>
   h! h':=dD h;rw[List.cons.injEq,List.cons.injEq,List.cons.injEq]at h';o!⟨_,_,h2,_⟩:=h';o!⟨a1,a2⟩:=zQ x x' h2;r!\(?_,rfl);show dN x+(if x.rk<3 then 1 else 0)=dN x'+(if x'.rk<3 then 1 else 0);rw[a1,a2]
  |num p q=>~absurd (congrArg List.length (dD h)) (by simp)
  |here=>~absurd (congrArg List.length (dD h)) (by simp)
  |fZ w n=>~absurd (congrArg List.length (dD h)) (by simp)
  |«at» m=>~absurd (congrArg List.length (dD h)) (by simp)
  |abs x'=>~absurd (congrArg List.length (dD h)) (by simp)
 |.abs x,u,h=>by
  o!⟨rx,ex⟩:=x.d0;cases u with
  |bin s' x' y'=>~absurd (congrArg List.length (dD h)) (by simp)
  |times p' q' x'=>~absurd (congrArg List.length (dD h)) (by simp)
  |num p q=>
   h! h':=dD h;rw[List.cons.injEq,List.cons.injEq]at h';h! h2:=h'.2.1;rw[ex]at h2;cases dD h2
  |here=>~absurd (congrArg List.length (dD h)) (by simp)
  |fZ w n=>
   h! h':=dD h;rw[List.cons.injEq,List.cons.injEq]at h';h! h2:=h'.2.1;rw[ex]at h2;c! h2
  |«at» m=>
   h! h':=dD h;rw[List.cons.injEq,List.cons.injEq]at h';h! h2:=h'.2.1;rw[ex]at h2;c! h2
  |abs x'=>
   h! h':=dD h;rw[List.cons.injEq,List.cons.injEq]at h';o!⟨a1,a2⟩:=zQ x x' h'.2.1;~\(by show dN x+1=dN x'+1;rw[a1],rfl)
 |.num p q,u,h=>by
  cases u with
  |bin s' x' y'=>~absurd (congrArg List.length (dD h)) (by simp)
  |times p' q' x'=>~absurd (congrArg List.length (dD h)) (by simp)
  |abs x'=>
   o!⟨rx,ex⟩:=x'.d0;h! h':=dD h;rw[List.cons.injEq,List.cons.injEq]at h';h! h2:=h'.2.1;rw[ex]at h2;cases dD h2
  |_=>~\(rfl,rfl)
 |.here,u,h=>by
  cases u with
  |bin s' x' y'=>~absurd (congrArg List.length (dD h)) (by simp)
  |times p' q' x'=>~absurd (congrArg List.length (dD h)) (by simp)
  |abs x'=>~absurd (congrArg List.length (dD h)) (by simp)
  |_=>~\(rfl,rfl)
 |.fZ w n,u,h=>by
  cases u with
  |bin s' x' y'=>~absurd (congrArg List.length (dD h)) (by simp)
  |times p' q' x'=>~absurd (congrArg List.length (dD h)) (by simp)
  |abs x'=>
   o!⟨rx,ex⟩:=x'.d0;h! h':=dD h;rw[List.cons.injEq,List.cons.injEq]at h';h! h2:=h'.2.1;rw[ex]at h2;c! h2
  |_=>~\(rfl,rfl)
 |.at m,u,h=>by
  cases u with
  |bin s' x' y'=>~absurd (congrArg List.length (dD h)) (by simp)
  |times p' q' x'=>~absurd (congrArg List.length (dD h)) (by simp)
  |abs x'=>
   o!⟨rx,ex⟩:=x'.d0;h! h':=dD h;rw[List.cons.injEq,List.cons.injEq]at h';h! h2:=h'.2.1;rw[ex]at h2;c! h2
  |_=>~\(rfl,rfl)
T! aav(s s':Bool):cg s≠cw s':=by c! s<;>c! s'<;>decide
T! aiF{s s':Bool}(h:cw s=cw s'):s=s':=by
 c! s<;>c! s'<;>first|rfl|~absurd h d?
T! JB:∀(t u:Cn),t.d=u.d->iJ t=iJ u/\t.rk=u.rk
 |.cmp s x y,u,h=>by
  cases u with
  |cmp s' x' y'=>
   h! h':=dD h;rw[List.cons.injEq,List.cons.injEq,List.cons.injEq]at h';o!⟨_,h1,h2,_⟩:=h';r!\(?_,rfl);show dN x+dN y=dN x'+dN y';rw[(zQ x x' h1).1,(zQ y y' h2).1]
  |not c=>~absurd (congrArg List.length (dD h)) (by simp)
  |two s' c e=>
   h! h':=dD h;rw[List.cons.injEq]at h';~absurd (str_inj h'.1) (aav s s')
 |.not c,u,h=>by
  cases u with
  |cmp s' x' y'=>~absurd (congrArg List.length (dD h)) (by simp)
  |two s' c e=>~absurd (congrArg List.length (dD h)) (by simp)
  |not c'=>
   h! h':=dD h;rw[List.cons.injEq,List.cons.injEq]at h';o!⟨a1,a2⟩:=JB c c' h'.2.1;r!\(?_,rfl);show iJ c+(if c.rk<3 then 1 else 0)=iJ c'+(if c'.rk<3 then 1 else 0);rw[a1,a2]
 |.two s c e,u,h=>by
  cases u with
  |cmp s' x' y'=>
   h! h':=dD h;rw[List.cons.injEq]at h';~absurd (str_inj h'.1).symm (aav s' s)
  |not c'=>~absurd (congrArg List.length (dD h)) (by simp)
  |two s' c' e'=>
   h! h':=dD h;rw[List.cons.injEq,List.cons.injEq,List.cons.injEq]at h';o!⟨h0,h1,h2,_⟩:=h';h! hs:=aiF (str_inj h0);subst hs;o!⟨a1,a2⟩:=JB c c' h1;o!⟨b1,b2⟩:=JB e e' h2;r!\(?_,rfl);show(iJ c+if c.rk<bl s then 1 else 0)+(iJ e+if e.rk<lK s then 1 else 0)=(iJ c'+if c'.rk<bl s then 1 else 0)+(iJ e'+if e'.rk<lK s then 1 else 0);rw[a1,a2,b1,b2]
D! dw(cs:List Nat):Nat:=(cs.filter λc=>c==40||c==91).length
T! jT(x y:List Nat):dw (x++y)=dw x+dw y:=by u! dw;rw[List.filter_append,List.length_append]
T! yx(c:Nat)(y:List Nat):dw (c::y)=(if(c==40||c==91)=true then 1 else 0)+dw y:=by
 u! dw;rw[List.filter_cons];split<;>simp<;>om
T! acX(x y:List Tk):dU (x++y)=dU x+dU y:=by u! dU;rw[List.filter_append,List.length_append]
T! anB:dU []=0:=rfl
T! Hu{w:List Nat}(h:∀c∈w,dq c=true):dw w=0/\dU (bQ w)=0:=by
 constructor
 ·u! dw
  rw[List.filter_eq_nil_iff.mpr];·rfl
  ·intro c hc z
   h!:=h c hc;S![Bool.or_eq_true,beq_iff_eq]at z;rcases z with rfl|rfl<;>~absurd this d?
 ·cases w with
  |nil=>rfl
  |cons c r=>
   rw[N6 h (by simp),yC,anB,if_neg];intro z;rw[Bool.or_eq_true,oU,oU]at z;h!:=h c (List.mem_cons_self ..);rcases z with z|z<;>(c! z;~absurd this d?)
T! afV(p:Nat->Bool):∀(l:List Nat) (c:Nat),c∈l.takeWhile p->p c=true
 |[],c,h=>by c! h
 |a::l,c,h=>by
  rw[List.takeWhile_cons]at h;split at h
  ·rename_i z
   rcases List.mem_cons.mp h with rfl|h;·~z
   ·~afV p l c h
  ·c! h
T! acY:∀(n:Nat) (cs:List Nat),cs.length<n->dU (bQ cs)=dw cs
 |0,cs,h=>absurd h (Nat.not_lt_zero _)
 |n+1,cs,h=>by
  h! e:=List.takeWhile_append_dropWhile (p:=dq) (l:=cs);h! hw:∀c∈cs.takeWhile dq,dq c=true:=λc hc=>afV dq cs c hc;generalize cs.takeWhile dq=w at e hw;o!⟨o1,o2⟩:=Hu hw;cases d:cs.dropWhile dq with
  |nil=>
   rw[d,List.append_nil]at e;rw[<-e,o1,o2]
  |cons c y=>
   h! hc:dq c=false:=by
    h!:=List.head_dropWhile_not (p:=dq) (l:=cs) (by rw[d];simp);S![d,List.head_cons]at this;simpa using this
   rw[d]at e;h! ly:y.length<n:=by h!:=congrArg List.length e;simp at this;om
   h! ih:=acY n y ly;rw[<-e];by_cases z:c=32
   ·subst z
    rw[mH,acX,jT,yx,if_neg d?,o1,o2,ih];om
   ·rw[uV hc z,acX,jT,yx,yC,o1,o2,ih]
    h!:(aQ [c] [40]||aQ [c] [91])=(c==40||c==91):=by
     rw[Bool.eq_iff_iff,Bool.or_eq_true,Bool.or_eq_true,oU,oU,beq_iff_eq,beq_iff_eq];simp
    rw[this]
T! needed{c:Cn}{cs:List Nat}(hl:dw cs<iJ c){d:D}{r:List Tk}{k b:Nat}(h:parse cs=.ok d r k b):d≠c.d:=λe=>by
 o!⟨c',e',ho⟩:=ac4 h;rw[acY (cs.length+1) cs (Nat.lt_succ_self _)]at ho;h!:=(JB c' c (by rw[<-e',e])).1;om
end WS
namespace WS
open PySem L2 P2 WP TM T2 PySem.NumText WR WC
T! G5{o c:Nat}(ho:(o==40||o==91)=true)(hc:(c==40||c==91)=false)(b:Bool)(x:List Nat):dw (brk o c b x)=dw x+if b=true then 1 else 0:=by
 u! brk;cases b with
 |false=>rfl
 |true=>
  rw[if_pos rfl,if_pos rfl,yx,if_pos ho,jT,yx,if_neg (by rw[hc];simp)];show 1+(dw x+(0+0))=_;om
T! sU(y:List Nat):dw (32::y)=dw y:=by rw[yx,if_neg d?];om
T! anf(w:Nat):dw (az (wd w))=0:=by
 u! wd;split;·decide
 ·split
  ·decide
  ·split<;>decide
T! Ef(p:Prop)[Decidable p]:(if decide p=true then 1 else 0)=(if p then 1 else 0):=by by_cases h:p<;>simp[h]
T! Bs:∀{t:Tm},t.Ok->dw t.tx=dN t
 |.num p q,h=>(Hu (uM h)).1
 |.here,_=>by show dw (az "here")=0;decide
 |.fZ w n,h=>by
  h! h':1<=n/\n<=9:=h;show dw (az (wd w)++32::dm n)=0;rw[jT,sU,anf,Bp o?,(Hu (wK _)).1]
 |.at m,h=>by
  show dw (az "at"++32::m)=0;rw[jT,sU,show dw (az "at")=0 by decide,(Hu (w:=m) λc hc=>by
   h!:=h.2.2.1 c hc;u! dq;rw[Bool.or_eq_true,Bool.and_eq_true,Bool.and_eq_true,Nat.ble_eq,Nat.ble_eq,Nat.ble_eq,Nat.ble_eq];om).1]
 |.bin s x y,h=>by
  show dw (x.tx++32::(az (sg s)++32::brk 40 41 (decide (y.rk<2)) y.tx))=dN x+dN y+if y.rk<2 then 1 else 0
  rw[jT,sU,jT,sU,G5 rfl rfl,Bs h.1,Bs h.2,show dw (az (sg s))=0 by c! s<;>decide,Ef];om
 |.times p q x,h=>by
  show dw (cB p q++32::([42]++32::brk 40 41 (decide (x.rk<3)) x.tx))=dN x+if x.rk<3 then 1 else 0
  rw[jT,sU,jT,sU,G5 rfl rfl,(Hu (uM h.1)).1,Bs h.2,show dw [42]=0 by decide,Ef];om
 |.abs x,h=>by
  show dw ([97,98,115,40]++(x.tx++[41]))=dN x+1;rw[jT,jT,Bs (t:=x) h,show dw [97,98,115,40]=1 by decide,show dw [41]=0 by decide];om
T! Mr:∀{c:Cn},c.Ok->dw c.tx=iJ c
 |.cmp s x y,h=>by
  show dw (x.tx++32::(az (cg s)++32::y.tx))=dN x+dN y;rw[jT,sU,jT,sU,Bs h.1,Bs h.2,show dw (az (cg s))=0 by c! s<;>decide];om
 |.not c,h=>by
  show dw ([110,111,116,32]++brk 91 93 (decide (c.rk<3)) c.tx)=iJ c+if c.rk<3 then 1 else 0
  rw[jT,G5 rfl rfl,Mr (c:=c) h,show dw [110,111,116,32]=0 by decide,Ef];om
 |.two s c e,h=>by
  show dw (brk 91 93 (decide (c.rk<bl s)) c.tx++32::(az (cw s)++32::brk 91 93 (decide (e.rk<lK s)) e.tx))=(iJ c+if c.rk<bl s then 1 else 0)+(iJ e+if e.rk<lK s then 1 else 0);rw[jT,sU,jT,sU,G5 rfl rfl,G5 rfl rfl,Mr h.1,Mr h.2,show dw (az (cw s))=0 by c! s<;>decide,Ef,Ef];om
T! bare{c:Cn}(h:c.Ok){cs:List Nat}(hl:dw cs+1=dw c.tx){d:D}{r:List Tk}{k b:Nat}(e:parse cs=.ok d r k b):d≠c.d:=
 needed (by rw[<-Mr h];om) e
end WS
namespace WR
open PySem L2 P2 WP TM T2 PySem.NumText
variable{a:Ad}
T! akv{l:List Str}(h:(l.map (·.length)).sum<=100000):JoinOk (Str.ofString "") l=true:=PyProof.Rows.joinOk_of (by
 h!:(Str.ofString "").length=0:=by decide
 rw[this];om)
T! aoY{z:Str}(hz:z.length<=100000):uN (.str z) [.str " "]=.ok (.lst ((Txt.split z \(#[32])).map D.str)):=by
 show(if((Str.ofString " ").length==0)=false/\z.length+2<=sizeLine then R.ok (D.lst ((Txt.split z (Str.ofString " ")).map D.str))else .bad)=_;rw[if_pos \(d?,size_of o?)];rfl
T! alp(cs:List Nat)(hl:cs.length<=30000):aL (Kf a (aM 2 [.str (aq cs)]))=.ok (.lst ((bQ cs).map tS)):=by
 h! hc1:jA (gV 0) (λ_=>.ok true) (nJ (b1 tB (d2 mX &0 #"abcdefghijklmnopqrstuvwxyz0123456789/")) &0 ((b8 #" " (b8 (d1 du &0) (b8 #" " iV))) Str.empty)) (j6 1 [] [.sh (.str (aq cs)),.no]) (signs (aq cs))=some (cs.map λc=>tS (cJ c)):=by
  h!:=zP (a:=gV 0) (c:=λ_=>.ok true) (e:=nJ (b1 tB (d2 mX &0 #"abcdefghijklmnopqrstuvwxyz0123456789/")) &0 ((b8 #" " (b8 (d1 du &0) (b8 #" " iV))) Str.empty)) (kE:=j6 1 [] [.sh (.str (aq cs)),.no]) (λd=>[.sh d]) (λd=>match d with|.str \(y)=>tS (cJ (y.toList.headD 0))|_=>.non) (signs (aq cs)) λd hd=>by
   o!⟨c,_,rfl⟩:=List.mem_map.mp hd;~\(rfl,rfl,aoA c)
  rw[this];u! signs;rw[List.map_map]
  congr 1
 h! l1:(signs (aq cs)).length<=sizeLine:=by u! signs;rw[List.length_map];~size_of (show(az (aq cs)).length<=_ by rw[lZ];om)
 h! j1:Lp (.str "") [.lst (cs.map λc=>tS (cJ c))]=.ok (.str (aq (cs.flatMap cJ))):=by
  show(match yR (cs.map λc=>tS (cJ c))with
   |some xs=>if JoinOk "" xs=true then R.ok (D.str (Txt.join "" xs))else .bad
   |none=>.bad)=_
  rw[strs_map];dsimp only;rw[if_pos (akv (by rw[List.map_map];~Nat.le_trans (acb cs) o?))]
  congr 2
  r! ext ?_;rw[lZ];show az (Builtin.Str.glued _ _)=_;rw[StrLaws.glued_eq_join,aaD,List.map_map];rfl
 h! l2:(aq (cs.flatMap cJ)).length<=100000:=by rw[qK];~Nat.le_trans (Ly cs) o?
 h! p1:=aoY l2;h! p2:(Txt.split (aq (cs.flatMap cJ)) \(#[32])).map D.str=(bF 32 (cs.flatMap cJ)).map tS:=by
  h!:=W9 (aq (cs.flatMap cJ)) 32;rw[lZ]at this;rw[<-this,List.map_map];r! List.map_congr_left λz _=>?_;show D.str z=D.str (aq (az z));rw[lO]
 rw[p2]at p1;h! hc2:=aaI (j6 1 [] [.sh (.str (aq cs)),.sh (.lst (cs.map λc=>tS (cJ c)))]) (λ_=>rfl) (bF 32 (cs.flatMap cJ));h! l3:((bF 32 (cs.flatMap cJ)).map tS).length<=sizeLine:=by
  rw[List.length_map];h!:=Sw 32 (cs.flatMap cJ);h!:=Ly cs;~size_of o?
 u! Kf;iterate 7 (walk_at "den";try S![if_pos l1,hc1,j1,p1,if_pos l3,hc2])
 try rfl
T! afO{cs:List Nat}(h1:cs.length<=30000)(h2:∀c∈cs,c<=127):jf (bQ cs):=by
 h! h3:∀c∈cs.flatMap cJ,c<=127:=λc hc=>by
  o!⟨d,hd,hc⟩:=List.mem_flatMap.mp hc;h!:=h2 d hd;u! cJ at hc;cases e:dq d<;>rw[e]at hc<;>simp at hc<;>om
 h! h4:=Ly cs;h! hm:∀t∈bQ cs,t∈bF 32 (cs.flatMap cJ)/\t≠[]:=λt ht=>by
  h!:=List.mem_filter.mp (show t∈(bF 32 (cs.flatMap cJ)).filter λt=>!t.isEmpty from ht);r!\(this.1,λe=>?_);rw[e]at this;~absurd this.2 (by simp)
 r!\(λt ht=>(hm t ht).2,λt ht=>?_,?_)
 ·u! PyData.strOk
  rw[<-Array.all_toList];r! List.all_eq_true.mpr λc hc=>?_;h!:=h3 c ((Ma (hm t ht).1).1 c hc);S![decide_eq_true_eq];om
 ·h! l1:=List.length_filter_le (λt:Tk=>!t.isEmpty) (bF 32 (cs.flatMap cJ))
  h! l2:=Sw 32 (cs.flatMap cJ);~Nat.le_trans l1 o?
T! arx{w:List Nat}:∀{l:List Nat},w∈bF 32 (l.flatMap cJ)->w.length<=l.length+1:=by
 h! main:∀l:List Nat,((bF 32 (l.flatMap cJ)).headD []).length<=l.length+1/\∀w∈bF 32 (l.flatMap cJ),w.length<=l.length+1:=by
  intro l;induction l with
  |nil=>~\(by simp[bF],λw hw=>by simp[bF]at hw;subst hw;simp)
  |cons c r ih=>
   o!⟨h1,h2⟩:=ih;rw[List.flatMap_cons];u! cJ;cases hc:dq c with
   |true=>
    show((bF 32 (c::r.flatMap cJ)).headD []).length<=_/\_;by_cases e:c=32;·subst e;~absurd hc d?
    ·cases q:bF 32 (r.flatMap cJ)with
     |nil=>~absurd q (yP 32 _)
     |cons p ps=>
      rw[q]at h1 h2;h! e2:bF 32 (c::r.flatMap cJ)=(c::p)::ps:=uP e q;show((bF 32 (c::r.flatMap cJ)).headD []).length<=_/\∀w∈bF 32 (c::r.flatMap cJ),_;rw[e2];r!\(by simp at h1⊢;om,λw hw=>?_);rcases List.mem_cons.mp hw with rfl|hw;·simp at h1⊢;om
      ·h!:=h2 w (.tail _ hw);rw[List.length_cons];om
   |false=>
    h! e1:bF 32 ([32,c,32]++r.flatMap cJ)=[]::bF 32 (c::32::r.flatMap cJ):=qQ ..;show((bF 32 ([32,c,32]++r.flatMap cJ)).headD []).length<=_/\∀w∈bF 32 ([32,c,32]++r.flatMap cJ),_;rw[e1];r!\(by simp,λw hw=>?_);rcases List.mem_cons.mp hw with rfl|hw;·simp
    ·by_cases e:c=32
     ·subst e
      rw[qQ,qQ]at hw;rcases List.mem_cons.mp hw with rfl|hw;·simp
      ·rcases List.mem_cons.mp hw with rfl|hw
       ·simp
       ·h!:=h2 w hw;rw[List.length_cons];om
     ·h! q:bF 32 (32::r.flatMap cJ)=[]::bF 32 (r.flatMap cJ):=qQ ..
      rw[uP e q]at hw;rcases List.mem_cons.mp hw with rfl|hw;·simp
      ·h!:=h2 w hw;rw[List.length_cons];om
 ~λ{l} h=>(main l).2 w h
end WR
set_option maxHeartbeats 1000000
namespace WS
open PySem L2 P2 WP WR WC TM T2 PySem.NumText
D! jn(y:List Nat):List (List Nat)->List Nat
 |[]=>[]
 |[p]=>p
 |p::q::r=>p++(y++jn y (q::r))
T! zO(y:Str):∀l:List Str,az (Str.join y l)=jn (az y) (l.map az)
 |[]=>rfl
 |[p]=>rfl
 |p::q::r=>by
  show az (p++y++Str.join y (q::r))=_;rw[gD,gD,zO y (q::r),List.append_assoc];rfl
T! apg(x y z:Str):∃ps,az x=jn (az y) ps/\az (Txt.replace x y z)=jn (az z) ps:=by
 u! Txt.replace;split;·~\([az x],rfl,rfl)
 ·r!\((Builtin.Str.partsBetween x (Builtin.Str.occurrences x y 0 x.length (x.length+1)) y.length).map az,?_,?_)
  ·h!:=StrLaws.glued_between_self x y (x.length+1)
   rw[StrLaws.glued_eq_join]at this;rw[<-zO,this]
  ·rw[StrLaws.glued_eq_join,zO]
T! abY{s:Nat}(hs:dq s=false)(qC:s≠32):∀(ps:List (List Nat)) (x:List Nat),bQ (x++jn [32,s,32] ps)=bQ (x++jn [s] ps)
 |[],x=>rfl
 |[p],x=>rfl
 |p::q::r,x=>by
  show bQ (x++(p++([32,s,32]++jn [32,s,32] (q::r))))=bQ (x++(p++([s]++jn [s] (q::r))));h! h:=afK hs qC 1 1 (x++p) (jn [32,s,32] (q::r));rw[<-List.append_assoc];r!(show bQ (x++p++([32,s,32]++jn [32,s,32] (q::r)))=bQ (x++p++s::jn [32,s,32] (q::r))from h).trans ?_;h!:=abY hs qC (q::r) (x++p++[s]);rw[List.append_assoc (x++p) [s],List.append_assoc (x++p) [s]]at this;rw[<-List.append_assoc x p];~this
T! abW{s:Nat}:∀ps:List (List Nat),(jn [s] ps).length<=(jn [32,s,32] ps).length
 |[]=>Nat.le_refl _
 |[p]=>Nat.le_refl _
 |p::q::r=>by
  h!:=abW (s:=s) (q::r);show(p++([s]++jn [s] (q::r))).length<=(p++([32,s,32]++jn [32,s,32] (q::r))).length;S![List.length_append,List.length_cons,List.length_nil];om
T! abX{s c:Nat}:∀ps:List (List Nat),c∈jn [s] ps->c∈jn [32,s,32] ps
 |[],h=>h
 |[p],h=>h
 |p::q::r,h=>by
  h! h':c∈p++([s]++jn [s] (q::r)):=h;show c∈p++([32,s,32]++jn [32,s,32] (q::r));rcases List.mem_append.mp h' with h|h;·~List.mem_append_left _ h
  ·r! List.mem_append_right _ ?_
   rcases List.mem_append.mp h with h|h;·rw[List.mem_singleton.mp h];simp
   ·~List.mem_append_right _ (abX (q::r) h)
T! aeM:∀(ss:List Nat),(∀s∈ss,dq s=false/\s≠32)->∀x:Str,x.length<=1000000->∃z,uL " " " " ss x=some z/\bQ (az z)=bQ (az x)/\(az z).length<=(az x).length/\∀c∈az z,c∈az x
 |[],_,x,_=>\(x,rfl,rfl,Nat.le_refl _,λ_ h=>h)
 |s::ss,hs,x,hx=>by
  o!⟨h1,h2⟩:=hs s (.head _);o!⟨ps,e1,e2⟩:=apg x (Str.ofString " "++\(#[s])++Str.ofString " ") \(#[s]);h! c1:az (Str.ofString " "++\(#[s])++Str.ofString " ")=[32,s,32]:=by rw[gD,gD];rfl
  h! c2:az (\(#[s]):Str)=[s]:=rfl;rw[c1]at e1;rw[c2]at e2;h! l0:∀y:Str,(az y).length=y.length:=λy=>by show y.cps.toList.length=y.cps.size;simp
  h! l1:=abW (s:=s) ps;o!⟨z,g1,g2,g3,g4⟩:=aeM ss (λt ht=>hs t (.tail _ ht)) (Txt.replace x (Str.ofString " "++\(#[s])++Str.ofString " ") \(#[s])) (by rw[<-l0,e2];rw[<-l0,e1]at hx;om);r!\(z,?_,?_,?_,λc hc=>?_)
  ·u! uL
   rw[if_pos hx];~g1
  ·rw[g2,e1,e2]
   ~(abY h1 h2 ps []).symm
  ·rw[e2]at g3;rw[e1];om
  ·h!:=g4 c hc
   rw[e2]at this;rw[e1];~abX ps this
T! afL:∀(ps:List (Nat×List Nat)),(∀p∈ps,p.2=[p.1]\/(dq p.1=false/\p.1≠32/\∃i j,p.2=List.replicate i 32++p.1::List.replicate j 32)\/(p.1=32/\∃n,p.2=List.replicate (n+1) 32))->∀x:List Nat,bQ (x++ps.flatMap (·.2))=bQ (x++ps.map (·.1))
 |[],_,x=>rfl
 |p::r,h,x=>by
  h! ih:=afL r λd hd=>h d (List.mem_cons_of_mem _ hd);rw[List.flatMap_cons,List.map_cons];h! fin:bQ (x++p.1::r.flatMap (·.2))=bQ (x++p.1::r.map (·.1)):=by
   h!:=ih (x++[p.1]);rw[List.append_assoc,List.append_assoc]at this;~this
  rcases h p (List.mem_cons_self ..)with e|⟨h1,h2,i,j,e⟩|⟨e0,n,e⟩;·rw[e];~fin
  ·rw[e,List.append_assoc,List.cons_append,afK h1 h2];~fin
  ·rw[e,arv,<-e0];~fin
D! dM(c:Nat):Bool:=c==40||c==91
D! isC(c:Nat):Bool:=c==41||c==93
D! iW(l:List Nat):Nat:=(l.filter dM).length
D! iw(l:List Nat):Nat:=(l.filter isC).length
T! G7(x y:List Nat):iW (x++y)=iW x+iW y:=by u! iW;rw[List.filter_append,List.length_append]
T! Ec(x y:List Nat):iw (x++y)=iw x+iw y:=by u! iw;rw[List.filter_append,List.length_append]
structure Dy(x:List Nat):Prop where
 pre:∀n,iw (x.take n)<=iW (x.take n)
 all:iw x=iW x
T! uf{x:List Nat}(h:∀c∈x,dM c=false/\isC c=false):Dy x:=by
 h! z:∀y:List Nat,(∀c∈y,dM c=false/\isC c=false)->iW y=0/\iw y=0:=λy hy=>by
  u! iW iw;rw[List.filter_eq_nil_iff.mpr λc hc=>by rw[(hy c hc).1];decide,List.filter_eq_nil_iff.mpr λc hc=>by rw[(hy c hc).2];decide];~\(rfl,rfl)
 r!\(λn=>?_,?_)
 ·o!⟨h1,h2⟩:=z (x.take n) λc hc=>h c (List.mem_of_mem_take hc)
  om
 ·o!⟨h1,h2⟩:=z x h
  om
T! Dy.app{x y:List Nat}(hx:Dy x)(hy:Dy y):Dy (x++y):=by
 r!\(λn=>?_,by rw[G7,Ec,hx.all,hy.all]);rw[List.take_append];rw[G7,Ec];h! h1:=hx.pre n;h! h2:=hy.pre (n - x.length);om
T! Dy.brk{o c:Nat}(ho:dM o=true/\isC o=false)(hc:isC c=true/\dM c=false){x:List Nat}(hx:Dy x):Dy (o::(x++[c])):=by
 h! f1:∀l,iW (o::l)=iW l+1:=λl=>by u! iW;rw[List.filter_cons,if_pos ho.1,List.length_cons]
 h! f2:∀l,iw (o::l)=iw l:=λl=>by u! iw;rw[List.filter_cons,if_neg (by rw[ho.2];decide)]
 h! f3:iW [c]=0:=by u! iW;rw[List.filter_cons,if_neg (by rw[hc.2];decide)];rfl
 h! f4:iw [c]=1:=by u! iw;rw[List.filter_cons,if_pos hc.1];rfl
 r!\(λn=>?_,by rw[f1,f2,G7,Ec,f3,f4,hx.all]);cases n with
 |zero=>~Nat.le_refl _
 |succ n=>
  rw[List.take_succ_cons,f1,f2,List.take_append,G7,Ec];h! h1:=hx.pre n;h! h2:iw (List.take (n - x.length) [c])<=1:=by
   u! iw;r! Nat.le_trans (List.length_filter_le ..) ?_;rw[List.length_take];~Nat.min_le_right _ _
  om
T! Ek{o c:Nat}(ho:dM o=true/\isC o=false)(hc:isC c=true/\dM c=false)(b:Bool){x:List Nat}(hx:Dy x):Dy (WC.brk o c b x):=by
 u! WC.brk;split;·~hx.brk ho hc
 ·~hx
T! aeT{c:Nat}(h:dq c=true):dM c=false/\isC c=false:=by
 constructor
 ·cases e:dM c with
  |false=>rfl
  |true=>
   u! dM at e;simp at e;rcases e with rfl|rfl<;>~absurd h d?
 ·cases e:isC c with
  |false=>rfl
  |true=>
   u! isC at e;simp at e;rcases e with rfl|rfl<;>~absurd h d?
T! zY{x:List Nat}(h:∀c∈x,dq c=true):Dy x:=uf λc hc=>aeT (h c hc)
T! sE{c:Nat}(h:dM c=false/\isC c=false){x:List Nat}(hx:Dy x):Dy (c::x):=(uf (x:=[c]) λd hd=>by rw[List.mem_singleton.mp hd];~h).app hx
T! Yj(w:Nat):∀c∈az (wd w),dq c=true:=by
 u! wd;split;·decide
 ·split
  ·decide
  ·split<;>decide
T! z6:∀{t:Tm},t.Ok->Dy t.tx
 |.num p q,h=>zY (uM h)
 |.here,_=>zY (show∀c∈az "here",dq c=true by decide)
 |.fZ w n,h=>(zY (Yj w)).app (sE d? (zY (by rw[Bp (show 0<=n by h! h':1<=n/\n<=9:=h;om)];~wK _)))
 |.at m,h=>(zY (show∀c∈az "at",dq c=true by decide)).app (sE d? (uf λc hc=>by
   h!:=h.2.2.1 c hc;u! dM isC;simp;om))
 |.bin s x y,h=>by
  h! h1:=z6 h.1;h! h2:=z6 h.2;~h1.app (sE d? ((uf (by c! s<;>decide)).app (sE d? (Ek d? d? _ h2))))
 |.times p q x,h=>by
  h! h2:=z6 h.2;~(zY (uM h.1)).app (sE d? ((uf d?).app (sE d? (Ek d? d? _ h2))))
 |.abs x,h=>by
  h! h2:=z6 (t:=x) h;h! e:Tm.tx (.abs x)=[97,98,115]++(40::(x.tx++[41])):=rfl;rw[e];~(uf d?).app (h2.brk d? d?)
T! JR:∀{c:Cn},c.Ok->Dy c.tx
 |.cmp s x y,h=>(z6 h.1).app (sE d? ((uf (by c! s<;>decide)).app (sE d? (z6 h.2))))
 |.not c,h=>(uf d?).app (Ek d? d? _ (JR (c:=c) h))
 |.two s c e,h=>(Ek d? d? _ (JR h.1)).app (sE d? ((uf (by c! s<;>decide)).app (sE d? (Ek d? d? _ (JR h.2)))))
T! Tm.pL:∀{t:Tm},t.Ok->t.tx.length<=25*t.sz
 |.num p q,h=>by h!:=Cm h;show(cB p q).length<=25*1;om
 |.here,_=>by show(az "here").length<=25*1;decide
 |.fZ w n,h=>by
  h! h':1<=n/\n<=9:=h;h! h1:=Yi w;h! h2:=yt (i:=n) o?;show(az (wd w)++32::dm n).length<=25*1;S![List.length_append,List.length_cons];om
 |.at m,h=>by
  h! h':m.length<=8:=h.1;h! h2:(az "at").length=2:=by decide
  show(az "at"++32::m).length<=25*1;S![List.length_append,List.length_cons];om
 |.bin s x y,h=>by
  h! h1:=Tm.pL h.1;h! h2:=Tm.pL h.2;h! h3:(az (sg s)).length=1:=by c! s<;>decide
  h! h4:=jz 40 41 (decide (y.rk<2)) y.tx;show(x.tx++32::(az (sg s)++32::brk 40 41 (decide (y.rk<2)) y.tx)).length<=25*(x.sz+y.sz+1);S![List.length_append,List.length_cons];om
 |.times p q x,h=>by
  h! h1:=Cm h.1;h! h2:=Tm.pL h.2;h! h4:=jz 40 41 (decide (x.rk<3)) x.tx;show(cB p q++32::([42]++32::brk 40 41 (decide (x.rk<3)) x.tx)).length<=25*(x.sz+1);S![List.length_append,List.length_cons,List.length_nil];om
 |.abs x,h=>by
  h! h2:=Tm.pL (t:=x) h;show([97,98,115,40]++(x.tx++[41])).length<=25*(x.sz+1);S![List.length_append,List.length_cons,List.length_nil];om
T! Cn.pL:∀{c:Cn},c.Ok->c.tx.length<=25*c.sz
 |.cmp s x y,h=>by
  h! h1:=Tm.pL h.1;h! h2:=Tm.pL h.2;h! h3:=JH s;show(x.tx++32::(az (cg s)++32::y.tx)).length<=25*(x.sz+y.sz+1);S![List.length_append,List.length_cons];om
 |.not c,h=>by
  h! h1:=Cn.pL (c:=c) h;h! h2:=jz 91 93 (decide (c.rk<3)) c.tx;show([110,111,116,32]++brk 91 93 (decide (c.rk<3)) c.tx).length<=25*(c.sz+1);S![List.length_append,List.length_cons,List.length_nil];om
 |.two s c e,h=>by
  h! h1:=Cn.pL h.1;h! h2:=Cn.pL h.2;h! h3:=QG s;h! h4:=jz 91 93 (decide (c.rk<if s=true then 2 else 1)) c.tx;h! h5:=jz 91 93 (decide (e.rk<if s=true then 3 else 2)) e.tx;show(brk 91 93 (decide (c.rk<if s=true then 2 else 1)) c.tx++32::(az (cw s)++32::brk 91 93 (decide (e.rk<if s=true then 3 else 2)) e.tx)).length<=25*(c.sz+e.sz+1);S![List.length_append,List.length_cons];om
end WS
namespace WP
open PySem L2 P2
D! Ew(a:Ad):Ev->RT:=(aZ (c7 (b1 tB (d2 nZ &1 (dA cj (ak &0 aB)))) (bU (d2 aO &0 &1)) dj)
    (bU #0))
end WP
namespace CK
section
variable{α:Type}(k:α->Int)
end
end CK
namespace WP
open PySem L2 P2 TM T2 PySem.NumText
variable{a:Ad}
D! Sz(n:Nat)(i:Int):Prop:=i.natAbs<10^n
A! pr(p q:Int):D:=.tup [.int p,.int q]
section
variable{Ff:R!}(hf:∀t b:Int,b≠0->b.natAbs<10^400->Ff [.int t,.int b]=.ok (fr t b)){p q x y:Int}(h1:Sz 190 p)(h2:Sz 190 q)(h3:Sz 190 x)(h4:Sz 190 y)
include hf h1 h2 h3 h4
end
structure Ck where
 m:Str
 t:Int
 p:Int
 q:Int
A! Ck.d(c:Ck):D:=.tup [.str c.m,.int c.t,pr c.p c.q]
D! Ww(t t1 t2:Int):Int×Int:=if t1=t2 then(0,1)else(FM.top (t - t1) (t2 - t1),FM.bot (t - t1) (t2 - t1))
D! aah(t:Int)(c d:Ck):Int×Int:=
 let s:=Ww t c.t d.t
 let mt:=FM.top (d.p*c.q - c.p*d.q) (d.q*c.q)
 let mb:=FM.bot (d.p*c.q - c.p*d.q) (d.q*c.q)
 let gt:=FM.top (s.1*mt) (s.2*mb)
 let gb:=FM.bot (s.1*mt) (s.2*mb)
 (FM.top (c.p*gb+gt*c.q) (c.q*gb),FM.bot (c.p*gb+gt*c.q) (c.q*gb))
structure Ck.Ok(c:Ck):Prop where
 low:FM.rE c.p c.q
 p:Sz 9 c.p
 q:Sz 6 c.q
 t:0<=c.t/\c.t<=1000000000
 s:PyData.strOk c.m=true
structure Os(a:Ad)(Ff Ft Fs Fm Fx Fp:R!):Prop where
 f:∀t b:Int,b≠0->b.natAbs<10^400->Ff [.int t,.int b]=.ok (fr t b)
 t:∀c:Ck,Ft [c.d]=.ok (.int c.t)
 s:∀t t1 t2:Int,Sz 20 t1->Sz 20 t2->Fs [.int t,.int t1,.int t2]=.ok (pr (Ww t t1 t2).1 (Ww t t1 t2).2)
 m:∀p q x y:Int,Sz 190 p->Sz 190 q->Sz 190 x->Sz 190 y->q≠0->y≠0->Fm [pr p q,pr x y]=.ok (fr (p*y - x*q) (q*y))
 x:∀p q x y:Int,Sz 190 p->Sz 190 q->Sz 190 x->Sz 190 y->q≠0->y≠0->Fx [pr p q,pr x y]=.ok (fr (p*x) (q*y))
 p:∀p q x y:Int,Sz 190 p->Sz 190 q->Sz 190 x->Sz 190 y->q≠0->y≠0->Fp [pr p q,pr x y]=.ok (fr (p*y+x*q) (q*y))
structure Ov(a:Ad)(Ff Ft Fv:R!):Prop where
 f:∀t b:Int,b≠0->b.natAbs<10^400->Ff [.int t,.int b]=.ok (fr t b)
 t:∀c:Ck,Ft [c.d]=.ok (.int c.t)
 v:∀{t:Int},(0<=t/\t<=1000000000)->∀{c d:Ck},c.Ok->d.Ok->Fv [.int t,c.d,d.d]=.ok (pr (aah t c d).1 (aah t c d).2)
end WP
namespace P2
open PySem L2
T! aoW{i:Nat}{f:Ev->R (List D)}{ρ:Ev}:apw i f ρ=toS (f ρ) λds=>if i<ρ.length then .nx (ρ.set i (.ow ds))else .bad:=rfl
T! aoX{i j:Nat}{fs:Ev->R (List D)}{ρ:Ev}:apx i j fs ρ=toS (fs ρ) λds=>match ds with
 |[d1,d2]=>if i<ρ.length/\j<ρ.length then .nx ((ρ.set i (.sh d1)).set j (.sh d2))else .bad
 |_=>.bad:=rfl
T! aoJ{f:Ev->R D}{s0 s1 s2:Sl}{ds:List D}{r:Ev}:aeW 3 f (s0::s1::s2::.ow ds::r)=toS (f (s0::s1::s2::.ow ds::r)) λd=>if ds.length<sizeLine then .nx (s0::s1::s2::.ow (ds++[d])::r)else .bad:=rfl
T! aoK{f:Ev->R D}{s0 s1 s2 s3:Sl}{ds:List D}{r:Ev}:aeW 4 f (s0::s1::s2::s3::.ow ds::r)=toS (f (s0::s1::s2::s3::.ow ds::r)) λd=>if ds.length<sizeLine then .nx (s0::s1::s2::s3::.ow (ds++[d])::r)else .bad:=rfl
T! aoO{s0 s1 s2:Sl}{ds:List D}{r:Ev}:abj 3 (s0::s1::s2::.ow ds::r)=s0::s1::s2::.sh (.lst ds)::r:=rfl
T! aoP{s0 s1 s2 s3:Sl}{ds:List D}{r:Ev}:abj 4 (s0::s1::s2::s3::.ow ds::r)=s0::s1::s2::s3::.sh (.lst ds)::r:=rfl
T! aoQ{i j:Int}:alB [.int i,.int j]=.ok (.int (if j<i then j else i)):=rfl
T! aoV{j:Int}(h1:0<=j)(h2:j<1000000):mC [.int j]=.ok (wJ 0 j.toNat):=by
 show(if -(2^62)<=j/\j<2^62 then R.ok (wJ 0 j.toNat)else .bad)=_;rw[if_pos o?]
end P2
namespace WP
open PySem L2 P2 TM T2 PySem.NumText
local macro_rules|`(tactic|walk_at "den")=>`(tactic|try simp(disch:=first|assumption|decide|exact Nat.le_of_ble_eq_true rfl)only[aV,M3,adG,uJ,aer,aeq,Vq,Nh,aee,aed,Hq,aet,aeu,aev,aes,aew,BP,adL,adM,ad7,ad8,Vp,aec,aeb,Ho,aea,yG,BW,iY,Hj,ie,qN,Hg,Va,MT,Hi,adH,Hk,aoL,M5,Vb,lu,ju,fL,Hf,Vc,BL,M4,Hn,aoW,aoX,aoJ,aoK,aoO,aoP,aoQ,aoV,aep,adO,wH,Vt,ael,aen,aem,aeo,MN,aek,Hl,BV,Ng,ad3,Hm,adP,ad6,adJ,M6,adI,ad5,Vo,Vh,Vi,M8,ad2,aeh,aei,ad9,Nf,M9,Vm,U8,ad4,adQ,U9,adD,Vr,aeD,Vg,adN,adC,adB,BR,MP,adF,adE,Ve,Vl,Vj,adS,adR,adU,adV,adT,aef,aeg,adW,adZ,adX,ad0,adY,ad1,ou,qO,uK,BZ,Hr,Hs,Vu,aeB,Vv,Vw,aex,aey,aez,aeA,aM,List.map_cons,List.map_nil,List.length_cons,List.length_nil,Nat.sub_self,Nat.reduceAdd,Nat.reduceSub,List.replicate_zero,List.replicate_succ,List.append_nil,List.nil_append,List.cons_append,List.set_cons_zero,List.set_cons_succ,if_true,if_false,Nat.reduceLT,Nat.zero_lt_succ,Bool.not_true,Bool.not_false,Bool.false_eq_true,reduceIte,decide_true,decide_false,Int.reduceLT,Int.reduceEq,Int.reduceNeg,Int.reducePow,Int.reduceSub,Int.reduceAdd,Int.reduceMul,List.length_set])
variable{a:Ad}
T! lt_size{n:Nat}(h:n<1000000):n<sizeLine:=Nat.lt_of_lt_of_le h d?
T! ahI(ns:List Int)(k:Nat)(h:k<ns.length):L2.bN (ns.map D.int) (k:Int)=some (.int (ns.getD k 0)):=by
 r! vM ?_;rw[List.getElem?_map,List.getElem?_eq_getElem h,List.getD_eq_getElem?_getD,List.getElem?_eq_getElem h];rfl
T! akT(ns:List Int)(k:Nat):aL (Ew a (aM 2 [.lst (ns.map .int),.int k]))=.ok (.int (ns.getD k 0)):=by
 u! Ew;walk_at "den"
 rw[List.length_map];by_cases h:k<ns.length
 ·rw[if_pos (decide_eq_true o?),ahI ns k h]
  walk_at "den"
 ·rw[if_neg g!]
  walk_at "den"
  rw[List.getD_eq_getElem?_getD,List.getElem?_eq_none o?];rfl
structure FOk(p q:Int):Prop where
 low:FM.rE p q
 p:Sz 9 p
 q:Sz 6 q
end WP
namespace WC
open PySem L2 P2 WP TM T2 PySem.NumText
variable{a:Ad}
T! ags:∀(n:Nat) (x y:Int) (s0 s1 s4:Sl),0<=x->0<=y->y<n->
    ∃VP,qX (P2.b1 tB (d2 eG &3 #0)) (PQ a) n [s0,s1,.sh (.int x),.sh (.int y),s4]=.nx [s0,s1,.sh (.int (FM.g x y)),.sh (.int 0),VP]
 |0,x,y,s0,s1,s4,hx,hy,h=>by om
 |n+1,x,y,s0,s1,s4,hx,hy,h=>by
  rw[aeC];by_cases z:y=0
  ·subst z
   r!\(s4,?_);walk_at "den"
   rw[FM.abp hx]
  ·h! hp:0<y:=by om
   h! hm:=Int.emod_lt_of_pos x hp;o!⟨VP,e⟩:=ags n y (x%y) s0 s1 (.sh (.int (x%y))) hy (Int.emod_nonneg x z) o?;r!\(VP,?_);u! PQ;iterate 4 (walk_at "den";try S![decide_eq_true hp,BV hp,and_self])
   rw[<-FM.abo hx hp];~e
T! ala(t b:Int)(ht:0<=t)(hb:0<b)(h:b.natAbs<10^400):aL (Kr a (aM 5 [.int t,.int b]))=.ok (pr (FM.top t b) (FM.bot t b)):=by
 o!⟨s4,e⟩:=ags (a:=a) 10000000000000000000000000000000000000000000000000000000000000000000000000000000000000000000000000000000000000000000000000000000000000000000000000000000000000000000000000000000000000000000000000000000000000000000000000000000000000000000000000000000000000000000000000000000000000000000000000000000000000000000000000000000000000000000000000000000000000000000000000000000000000000000000000000000000000000 t b (.sh (.int t)) (.sh (.int b)) .no ht o? o?;rw[<-FM.aa3 hb]at e;h! d1:=M7 (i:=t) (FM.xM (t:=t) (b:=b) o?) (JQ (t:=t) (b:=b) o? h);h! d2:=M7 (i:=b) (FM.xM (t:=t) (b:=b) o?) (JQ (t:=t) (b:=b) o? h);u! Kr;iterate 4 (walk_at "den";try S![and_self])
 rw[e];iterate 4 (walk_at "den";try S![d1,d2])
 rfl
T! abg{t b:Int}(ht:0<=t)(h1:t<1000000000)(hb:0<b)(h2:b<1000000):Fq (FM.top t b) (FM.bot t b):=by
 h! L:=FM.Sy (t:=t) (b:=b) o?;o!⟨s1,s2⟩:=FM.split (t:=t) (b:=b) o?;h! gp:0<FM.dv t b:=by rw[FM.aa3 hb];~FM.Ri o?
 h! lp:=L.pos;generalize FM.dv t b=g at*;generalize FM.top t b=p at*;generalize FM.bot t b=q at*;h! hp:0<=p:=by
  by_cases w:0<=p;·~w
  ·h!:g*p<0:=Int.mul_neg_of_pos_of_neg gp o?
   om
 h! p1:p<=t:=by
  h!:1*p<=g*p:=Int.mul_le_mul_of_nonneg_right o? hp;om
 h! q1:q<=b:=by
  h!:1*q<=g*q:=Int.mul_le_mul_of_nonneg_right o? o?;om
 ~\(hp,L,o?,lp,o?)
T! ak0{Fl:R!}(hl:∀t b:Int,0<=t->0<b->b.natAbs<10^400->Fl [.int t,.int b]=.ok (pr (FM.top t b) (FM.bot t b)))(c:Int):∃p q,Fq p q/\aL (Am a Fl (aM 1 [.int c]))=.ok (pr p q):=by
 h! pw:U5 (.int 10) (.int 9)=.ok (.int 1000000000):=rfl;h! ml:lr (.int c) (.int 48271)=.ok (.int (c*48271)):=aoU d? d?;h! hp:(0:Int)<1000000000:=by decide
 by_cases h0:c%3=0
 ·r!\(c/3%9,1,\(o?,\(d?,?_),o?,d?,d?),?_)
  ·~Int.gcd_one
  ·u! Am
   iterate 5 (walk_at "den";try S![h0,decide_true,pr])
 ·by_cases h1:c%3=1
  ·r!\(_,_,abg (t:=c/3%12) (b:=1+c/36%7) o? o? o? o?,?_)
   h! e:=hl (c/3%12) (1+c/36%7) o? o? o?;u! Am;iterate 6 (walk_at "den";try S![h1,decide_true,pr,e])
  ·r!\(_,_,abg (t:=c/3%1000000000) (b:=1+c*48271%999983) o? o? o? o?,?_)
   h! e:=hl (c/3%1000000000) (1+c*48271%999983) o? o? o?;u! Am;iterate 6 (walk_at "den";try S![h0,h1,decide_false,pr,pw,ml,BV hp,e])
D! sS(k:Nat):Nat:=[122,98,120,107].getD k 98
T! acH:∀n:Nat,n<8->yw (Str.ofString "q") (n:Int)=true/\Txt.mul (Str.ofString "q") (n:Int)=aq (List.replicate n 113):=by decide+kernel
T! ane:∀k:Nat,k<4->L2.bN (Str.ofString "zbxk").cps.toList (k:Int)=some (sS k)/\97<=sS k/\sS k<=122:=by decide
T! alz:∀s:Nat,s<8->∀p:Nat,p<s+1->∀j:Nat,j<4->TR.kh ((List.replicate p 113++[sS j])++List.replicate (s - p) 113)=true:=by decide+kernel
T! alc(c k:Int):∃m,(m.length<=8/\m≠[]/\(∀c∈m,97<=c/\c<=122)/\TR.kh m=true)/\aL (Ks a (aM 4 [.int c,.int k]))=.ok (.str (aq m)):=by
 h! h8:0<=c%8/\c%8<8:=by om
 o!⟨s,hs⟩:=Int.eq_ofNat_of_zero_le h8.1;h! hp:(0:Int)<1+(s:Int):=by om
 h! hpl:=Int.emod_nonneg (c/8) (show(1:Int)+s≠0 by om);h! asl:=Int.emod_lt_of_pos (c/8) hp;o!⟨p,hpe⟩:=Int.eq_ofNat_of_zero_le hpl;o!⟨j,hj⟩:=Int.eq_ofNat_of_zero_le (show 0<=k%4 by om);h! j4:j<4:=by om
 h! s8:s<8:=by om
 h! ps:p<s+1:=by om
 o!⟨a2,a3⟩:=ane j j4;o!⟨o1,t1⟩:=acH p o?;o!⟨o2,t2⟩:=acH (s - p) o?;h! e3:(1:Int)+(s:Int) - 1 - (p:Int)=((s - p:Nat):Int):=by om
 h! m1:lr (.str (Str.ofString "q")) (.int (p:Int))=.ok (.str (aq (List.replicate p 113))):=by rw[Vn o1,t1]
 h! m2:lr (.str (Str.ofString "q")) (.int ((s - p:Nat):Int))=.ok (.str (aq (List.replicate (s - p) 113))):=by rw[Vn o2,t2]
 h! l1:(Str.ofString "zbxk").length<=sizeLine:=by decide
 h! x1:aP (.str (aq (List.replicate p 113))) (.str \(#[sS j]))=.ok (.str (aq (List.replicate p 113++[sS j]))):=gj (y:=[sS j]) (by rw[List.length_replicate];om) (by simp);h! x2:aP (.str (aq (List.replicate p 113++[sS j]))) (.str (aq (List.replicate (s - p) 113)))=.ok (.str (aq ((List.replicate p 113++[sS j])++List.replicate (s - p) 113))):=gj g! g!;h! ai:aP (.int 1) (.int (s:Int))=.ok (.int (1+s)):=rfl;r!\((List.replicate p 113++[sS j])++List.replicate (s - p) 113,\(by simp;om,by simp,?_,alz s s8 p ps j j4),?_)
 ·intro x hx
  S![List.mem_append,List.mem_replicate,List.mem_singleton]at hx;rcases hx with(⟨_,rfl⟩|rfl)|⟨_,rfl⟩;·decide
  ·~a3
  ·decide
 ·u! Ks
  generalize lr=MUL at*;generalize aP=pZ at*;iterate 9 (walk_at "den";try S![hs,hpe,hj,BV hp,a2,if_pos l1,e3,m1,m2,x1,x2,ai])
T! aln{p q:Int}(h:Fq p q):aL (Kz a (aM 2 [pr p q]))=.ok (.str (aq (cB p q))):=by
 h! s1:=XD (i:=p) (Nat.lt_of_lt_of_le h.p d?);h! s2:=XD (i:=q) (Nat.lt_of_lt_of_le h.q.2 d?);h! l1:=yt h.p;h! l2:=yt (i:=q) (Nat.lt_of_lt_of_le h.q.2 d?);h! x1:aP (.str (aq (dm p))) (.str (Str.ofString "/"))=.ok (.str (aq (dm p++[47]))):=gj (y:=[47]) o? (by simp);h! x2:aP (.str (aq (dm p++[47]))) (.str (aq (dm q)))=.ok (.str (aq ((dm p++[47])++dm q))):=gj g! o?;h! i0:L2.bN [D.int p,D.int q] 0=some (.int p):=rfl;h! i1:L2.bN [D.int p,D.int q] 1=some (.int q):=rfl;h! l2:2<=sizeLine:=by decide
 h! sf:cB p q=if q=1 then dm p else(dm p++[47])++dm q:=by
  u! cB;h! hq:=h.q.1;split;·rfl
  ·rw[List.append_assoc,List.singleton_append];congr 2;u! dm;rw[if_neg o?]
 rw[sf];h! hq:=h.q.1;u! Kz pr;generalize aP=pZ at*;by_cases w:q=1
 ·subst w
  iterate 7 (walk_at "den";try S![i0,i1,s1,s2,x1,x2,if_pos l2])
 ·h! w1:1<q:=by om
  iterate 7 (walk_at "den";try S![i0,i1,s1,s2,x1,x2,if_pos l2,w1,w])
D! tri(t:Tm):D:=.tup [t.d,.str (aq t.tx),.int t.rk]
D! bc(c:Cn):D:=.tup [c.d,.str (aq c.tx),.int c.rk]
T! ak7{Ff Fs Fm:R!}(hf:∀c:Int,∃p q,Fq p q/\Ff [.int c]=.ok (pr p q))(hs:∀p q,Fq p q->Fs [pr p q]=.ok (.str (aq (cB p q))))(hm:∀c k:Int,∃m,(m.length<=8/\m≠[]/\(∀c∈m,97<=c/\c<=122)/\TR.kh m=true)/\Fm [.int c,.int k]=.ok (.str (aq m)))
    (h c:Int):∃t:Tm,t.Ok/\t.sz=1/\aL (xQ a Ff Fs Fm (aM 7 [.int h,.int c]))=.ok (tri t):=by
 o!⟨k,hk⟩:=Int.eq_ofNat_of_zero_le (show 0<=c%8 by om);h! k8:k<8:=by om
 by_cases k2:k<2
 ·o!⟨p,q,fq,e1⟩:=hf (c/8)
  h! e2:=hs p q fq;r!\(.num p q,fq,rfl,?_);u! xQ tri;h! lt:(k:Int)<2:=by om
  iterate 7 (walk_at "den";try S![hk,lt,decide_true,e1,e2])
  rfl
 ·by_cases k3:k=2
  ·subst k3
   r!\(.here,trivial,rfl,?_);u! xQ tri;iterate 7 (walk_at "den";try S![hk,Int.cast_ofNat_Int])
   rfl
  ·by_cases k7:k=7
   ·subst k7
    o!⟨m,hO,e1⟩:=hm h (c/8);h! x1:aP (.str (Str.ofString "at ")) (.str (aq m))=.ok (.str (aq ([97,116,32]++m))):=gj (x:=[97,116,32]) (by simp) o?;r!\(.at m,hO,rfl,?_);u! xQ tri;h! ai:aP (.int 1) (.int (c/8%9))=.ok (.int (1+c/8%9)):=rfl;generalize aP=pZ at*;iterate 7 (walk_at "den";try S![hk,Int.cast_ofNat_Int,e1,x1,ai])
    rfl
   ·h! lt:¬(k:Int)<2:=by om
    h! n2:¬(k:Int)=2:=by om
    h! n7:¬(k:Int)=7:=by om
    h! w4:(k:Int) - 3=((k - 3:Nat):Int):=by om
    h! ix:L2.bN [D.str "back",D.str "on",D.str "ago",D.str "until"] ((k - 3:Nat):Int)=some (.str (wd (k - 3))):=by
     h!:k=3\/k=4\/k=5\/k=6:=by om
     rcases this with rfl|rfl|rfl|rfl<;>rfl
    h! nb:1<=1+c/8%9/\1+c/8%9<=9:=by om
    h! sn:=XD (i:=1+c/8%9) (Nat.lt_of_lt_of_le (show(1+c/8%9).natAbs<10 by om) d?);h! ln:=yt (i:=1+c/8%9) o?;h! lw:=Yi (k - 3);h! x1:aP (.str (wd (k - 3))) (.str (Str.ofString " "))=.ok (.str (aq (az (wd (k - 3))++[32]))):=by
     h!:=gj (x:=az (wd (k - 3))) (y:=[32]) o? (by simp);rw[lO]at this;~this
    h! x2:aP (.str (aq (az (wd (k - 3))++[32]))) (.str (aq (dm (1+c/8%9))))=.ok (.str (aq ((az (wd (k - 3))++[32])++dm (1+c/8%9)))):=gj g! o?;h! ai:aP (.int 1) (.int (c/8%9))=.ok (.int (1+c/8%9)):=rfl;h! l4:4<=sizeLine:=by decide
    r!\(.fZ (k - 3) (1+c/8%9),nb,rfl,?_);h! tx:(Tm.fZ (k - 3) (1+c/8%9)).tx=(az (wd (k - 3))++[32])++dm (1+c/8%9):=by
     rw[List.append_assoc];rfl
    u! xQ tri;rw[tx];generalize aP=pZ at*;iterate 9 (walk_at "den";try S![hk,lt,n2,n7,w4,ix,sn,x1,x2,ai,if_pos l4])
    rfl
T! alg{d:D}{x:List Nat}{r n:Int}{o c:Nat}(hx:x.length<=30000):aL (Kw a (aM 3 [.tup [d,.str (aq x),.int r],.int n,.str (aq [o,c])]))=.ok (.str (aq (brk o c (decide (r<n)) x))):=by
 h! i0:L2.bN [d,D.str (aq x),D.int r] 1=some (.str (aq x)):=rfl;h! i2:L2.bN [d,D.str (aq x),D.int r] 2=some (.int r):=rfl;h! b0:aO (.str (aq [o,c])) (.int 0)=.ok (.str (aq [o])):=rfl;h! b1:aO (.str (aq [o,c])) (.int 1)=.ok (.str (aq [c])):=rfl;h! x1:aP (.str (aq [o])) (.str (aq x))=.ok (.str (aq ([o]++x))):=gj (by simp) o?;h! x2:aP (.str (aq ([o]++x))) (.str (aq [c]))=.ok (.str (aq (([o]++x)++[c]))):=gj g! (by simp);h! l3:3<=sizeLine:=by decide
 h! e1:aO (.tup [d,D.str (aq x),D.int r]) (.int 1)=.ok (.str (aq x)):=by walk_at "den";S![if_pos l3,i0]
 h! e2:aO (.tup [d,D.str (aq x),D.int r]) (.int 2)=.ok (.int r):=by walk_at "den";S![if_pos l3,i2]
 S![List.cons_append,List.nil_append]at x1 x2;u! Kw brk;generalize aP=pZ at*;generalize aO=IX at*;by_cases h:r<n
 ·rw[if_pos (decide_eq_true h)]
  iterate 7 (walk_at "den";try S![e1,e2,b0,b1,x1,x2,decide_eq_true h])
  try simp
 ·rw[if_neg (by simp[h])]
  iterate 7 (walk_at "den";try S![e1,e2,b0,b1,x1,x2,decide_eq_false h])
D! Dt(F:R!):Prop:=∀(d:D) (x:List Nat) (r n:Int) (o c:Nat),x.length<=30000->F [.tup [d,.str (aq x),.int r],.int n,.str (aq [o,c])]=.ok (.str (aq (brk o c (decide (r<n)) x)))
T! rk1(t:Tm):¬t.rk<1:=by c! t<;>simp[Tm.rk]
T! uR{d:D}{x:List Nat}{r:Int}:aO (.tup [d,D.str (aq x),D.int r]) (.int 0)=.ok d/\aO (.tup [d,D.str (aq x),D.int r]) (.int 1)=.ok (.str (aq x)):=by
 h! l3:3<=sizeLine:=by decide
 h! i0:L2.bN [d,D.str (aq x),D.int r] 0=some d:=rfl;h! i1:L2.bN [d,D.str (aq x),D.int r] 1=some (.str (aq x)):=rfl;~\(by walk_at "den";S![if_pos l3,i0],by walk_at "den";S![if_pos l3,i1])
T! PJ{x w y:List Nat}(h1:x.length<=15000)(h2:w.length<=100)(h3:y.length<=15000):
    aP (.str (aq x)) (.str (Str.ofString " "))=.ok (.str (aq (x++[32])))/\aP (.str (aq (x++[32]))) (.str (aq w))=.ok (.str (aq (x++[32]++w)))/\aP (.str (aq (x++[32]++w))) (.str (Str.ofString " "))=.ok (.str (aq (x++[32]++w++[32])))/\aP (.str (aq (x++[32]++w++[32]))) (.str (aq y))=.ok (.str (aq (x++32::(w++32::y)))):=by
 r!\(gj (y:=[32]) o? (by simp),gj g! o?,gj (y:=[32]) g! (by simp),?_);rw[gj g! o?];simp
T! alb{Fp:R!}(hp:Dt Fp){x y:Tm}{s:Bool}(lx:x.tx.length<=10000)(ly:y.tx.length<=10000):aL (KH a Fp (aM 4 [tri x,tri y,.str (sg s)]))=.ok (tri (.bin s x y)):=by
 h! p1:=hp x.d x.tx x.rk 1 40 41 o?;h! p2:=hp y.d y.tx y.rk 2 40 41 o?;h! ls:=Wu s;h! lb:=jz 40 41 (decide (y.rk<2)) y.tx;rw[decide_eq_false (rk1 x),show brk 40 41 false x.tx=x.tx from rfl]at p1;h! br:aq [40,41]=Str.ofString "()":=rfl;rw[br]at p1 p2;o!⟨a1,a2,a3,a4⟩:=PJ (x:=x.tx) (w:=az (sg s)) (y:=brk 40 41 (decide (y.rk<2)) y.tx) o? o? o?;rw[lO]at a2;o!⟨i0,_⟩:=uR (d:=x.d) (x:=x.tx) (r:=x.rk);o!⟨i1,_⟩:=uR (d:=y.d) (x:=y.tx) (r:=y.rk);h! tx:(Tm.bin s x y).tx=x.tx++32::(az (sg s)++32::brk 40 41 (decide (y.rk<2)) y.tx):=rfl;u! KH tri;rw[tx,show(Tm.bin s x y).d=.tup [.str (sg s),x.d,y.d]from rfl,show(Tm.bin s x y).rk=1 from rfl];generalize aP=pZ at*;generalize aO=IX at*;iterate 9 (walk_at "den";try S![p1,p2,a1,a2,a3,a4,i0,i1])
T! ak9{Ff Fs Fp:R!}(hf:∀c:Int,∃p q,Fq p q/\Ff [.int c]=.ok (pr p q))(hs:∀p q,Fq p q->Fs [pr p q]=.ok (.str (aq (cB p q))))(hp:Dt Fp){x:Tm}(hx:x.Ok)(lx:x.tx.length<=10000)(c:Int):
    ∃t:Tm,t.Ok/\t.sz=x.sz+1/\jD t=jD x+1/\aL (Ex a Ff Fs Fp (aM 3 [tri x,.int c]))=.ok (tri t):=by
 o!⟨i0,i1⟩:=uR (d:=x.d) (x:=x.tx) (r:=x.rk);by_cases h:c%2=0
 ·r!\(.abs x,hx,rfl,rfl,?_)
  h! x1:aP (.str (Str.ofString "abs(")) (.str (aq x.tx))=.ok (.str (aq ([97,98,115,40]++x.tx))):=gj (x:=[97,98,115,40]) (by simp) o?;h! x2:aP (.str (aq ([97,98,115,40]++x.tx))) (.str (Str.ofString ")"))=.ok (.str (aq (([97,98,115,40]++x.tx)++[41]))):=gj (y:=[41]) g! (by simp);rw[List.append_assoc]at x2;S![List.cons_append,List.nil_append]at x1 x2;u! Ex tri;rw[show(Tm.abs x).tx=[97,98,115,40]++(x.tx++[41])from rfl,show(Tm.abs x).d=.tup [.str "abs",x.d]from rfl,show(Tm.abs x).rk=3 from rfl];generalize aP=pZ at*;generalize aO=IX at*;iterate 9 (walk_at "den";try S![h,x1,x2,i0,i1])
 ·o!⟨p,q,fq,e1⟩:=hf (c/2)
  h! e2:=hs p q fq;h! e3:=hp x.d x.tx x.rk 3 40 41 o?;rw[show aq [40,41]=Str.ofString "()" from rfl]at e3;h! lb:=jz 40 41 (decide (x.rk<3)) x.tx;h! lf:=Cm fq;h! x1:aP (.str (aq (cB p q))) (.str (Str.ofString " * "))=.ok (.str (aq (cB p q++[32,42,32]))):=gj (y:=[32,42,32]) o? (by simp);h! x2:aP (.str (aq (cB p q++[32,42,32]))) (.str (aq (brk 40 41 (decide (x.rk<3)) x.tx)))=.ok (.str (aq ((cB p q++[32,42,32])++brk 40 41 (decide (x.rk<3)) x.tx))):=gj g! o?;r!\(.times p q x,\(fq,hx),rfl,rfl,?_);h! tx:(Tm.times p q x).tx=(cB p q++[32,42,32])++brk 40 41 (decide (x.rk<3)) x.tx:=by
   rw[List.append_assoc];rfl
  u! Ex tri;rw[tx,show(Tm.times p q x).d=.tup [.str "times",pr p q,x.d]from rfl,show(Tm.times p q x).rk=2 from rfl];generalize aP=pZ at*;generalize aO=IX at*;iterate 9 (walk_at "den";try S![h,x1,x2,i0,i1,e1,e2,e3])
T! akU{x y:Tm}{s:Bool}(lx:x.tx.length<=10000)(ly:y.tx.length<=10000):aL (Kh a (aM 3 [tri x,tri y,.str (cg s)]))=.ok (bc (.cmp s x y)):=by
 h! ls:=JH s;o!⟨a1,a2,a3,a4⟩:=PJ (x:=x.tx) (w:=az (cg s)) (y:=y.tx) o? o? o?;rw[lO]at a2;o!⟨i0,j0⟩:=uR (d:=x.d) (x:=x.tx) (r:=x.rk);o!⟨i1,j1⟩:=uR (d:=y.d) (x:=y.tx) (r:=y.rk);u! Kh tri bc;rw[show(Cn.cmp s x y).tx=x.tx++32::(az (cg s)++32::y.tx)from rfl,show(Cn.cmp s x y).d=.tup [.str (cg s),x.d,y.d]from rfl,show(Cn.cmp s x y).rk=4 from rfl];generalize aP=pZ at*;generalize aO=IX at*;iterate 9 (walk_at "den";try S![a1,a2,a3,a4,i0,i1,j0,j1])
T! ak8{Fp:R!}(hp:Dt Fp){x y:Cn}{s:Bool}(lx:x.tx.length<=10000)(ly:y.tx.length<=10000):aL (Kq a Fp (aM 5 [bc x,bc y,.str (cw s)]))=.ok (bc (.two s x y)):=by
 h! ls:=QG s;h! ib:yh [.bl (decide (cw s=Str.ofString "and"))]=.ok (.int (if s=true then 1 else 0)):=by c! s<;>rfl
 h! ai:aP (.int 1) (.int (if s=true then 1 else 0))=.ok (.int (if s=true then 2 else 1)):=by c! s<;>rfl
 h! aj:aP (.int (if s=true then 2 else 1)) (.int 1)=.ok (.int (if s=true then 3 else 2)):=by c! s<;>rfl
 h! p1:=hp x.d x.tx x.rk (if s=true then 2 else 1) 91 93 o?;h! p2:=hp y.d y.tx y.rk (if s=true then 3 else 2) 91 93 o?;h! br:aq [91,93]=Str.ofString "[]":=rfl;rw[br]at p1 p2;h! lb1:=jz 91 93 (decide (x.rk<if s=true then 2 else 1)) x.tx;h! lb2:=jz 91 93 (decide (y.rk<if s=true then 3 else 2)) y.tx;o!⟨a1,a2,a3,a4⟩:=PJ (x:=brk 91 93 (decide (x.rk<if s=true then 2 else 1)) x.tx) (w:=az (cw s)) (y:=brk 91 93 (decide (y.rk<if s=true then 3 else 2)) y.tx) o? o? o?;rw[lO]at a2;o!⟨i0,j0⟩:=uR (d:=x.d) (x:=x.tx) (r:=x.rk);o!⟨i1,j1⟩:=uR (d:=y.d) (x:=y.tx) (r:=y.rk);u! Kq bc;rw[show(Cn.two s x y).tx=brk 91 93 (decide (x.rk<if s=true then 2 else 1)) x.tx++32::(az (cw s)++32::brk 91 93 (decide (y.rk<if s=true then 3 else 2)) y.tx)from rfl,show(Cn.two s x y).d=.tup [.str (cw s),x.d,y.d]from rfl,show(Cn.two s x y).rk=if s=true then 2 else 1 from rfl];generalize aP=pZ at*;generalize aO=IX at*;generalize yh=IB at*;generalize(if s=true then(1:Int)else 0)=r0 at*;generalize(if s=true then(3:Int)else 2)=r3 at*;generalize(if s=true then(2:Int)else 1)=r1 at*;iterate 9 (walk_at "den";try S![ib,ai,aj,p1,p2,a1,a2,a3,a4,i0,i1,j0,j1])
T! akW{Fp:R!}(hp:Dt Fp){x:Cn}(lx:x.tx.length<=10000):aL (Km a Fp (aM 1 [bc x]))=.ok (bc (.not x)):=by
 h! p1:=hp x.d x.tx x.rk 3 91 93 o?;rw[show aq [91,93]=Str.ofString "[]" from rfl]at p1;h! lb:=jz 91 93 (decide (x.rk<3)) x.tx;h! x1:aP (.str (Str.ofString "not ")) (.str (aq (brk 91 93 (decide (x.rk<3)) x.tx)))=.ok (.str (aq ([110,111,116,32]++brk 91 93 (decide (x.rk<3)) x.tx))):=gj (x:=[110,111,116,32]) (by simp) o?;o!⟨i0,j0⟩:=uR (d:=x.d) (x:=x.tx) (r:=x.rk);u! Km bc;rw[show(Cn.not x).tx=[110,111,116,32]++brk 91 93 (decide (x.rk<3)) x.tx from rfl,show(Cn.not x).d=.tup [.str "not",x.d]from rfl,show(Cn.not x).rk=3 from rfl];generalize aP=pZ at*;generalize aO=IX at*;iterate 9 (walk_at "den";try S![p1,x1,i0,j0])
D! dY(t c:Int):Int:=(t+1)/2+t%2+max 0 (c+(t+1)/2 - 1)+3*(if c+(t+1)/2=0 then 1 else 0)
T! ali(t c:Int):aL (Ky a (aM 3 [.int t,.int c]))=.ok (.int (dY t c)):=by
 h! m1:∀z:Int,lr (.int 3) (.int z)=.ok (.int (3*z)):=λz=>aoT d? d?;h! ib:∀b:Bool,yh [.bl b]=.ok (.int (if b=true then 1 else 0)):=λb=>by c! b<;>rfl
 h! mx:∀z:Int,n6 [.int 0,.int z]=.ok (.int (max 0 z)):=λz=>by
  show R.ok (D.int (if z>0 then z else 0))=_
  congr 2
  split<;>om
 u! Ky dY;iterate 7 (walk_at "den";try S![m1,ib,mx])
 by_cases h:c+(t+1)/2=0<;>simp[h]<;>(try split)<;>om
D! bO(ts cs:List D)(p o:Int):aC:=[.dk [(.inr "terms",.loc 1),(.inr "conds",.loc 2),(.inr "parts",.d (.int p)),(.inr "over",.d (.int o))],.li (ts.map .d),.li (cs.map .d)]
section
variable{ρ cP:aJ}{S S1 S2:aC}{f:K!}{ts cs ts' cs':List D}{p o p' o':Int}{x:D}{i:Nat}
T! gR{g h:aJ->aC->aU}(e:g ρ S=.nx cP S1):aY g h ρ S=h cP S1:=by u! aY;rw[e];rfl
T! oH{z:Z}(e:f ρ S=.ok z S1)(hi:i<ρ.length):cU i f ρ S=.nx (ρ.set i (some z)) S1:=by u! cU;rw[e];~if_pos hi
T! tE{c:aJ->aC->RX Bool}{g h:aJ->aC->aU}(e:c ρ S=.ok true S1):dH c g h ρ S=g ρ S1:=by u! dH;rw[e];rfl
T! jE{c:aJ->aC->RX Bool}{g h:aJ->aC->aU}(e:c ρ S=.ok false S1):dH c g h ρ S=h ρ S1:=by u! dH;rw[e];rfl
T! aca(l:List D)(x:D):((l++[x]).map Z.d)[((l++[x]).map Z.d).length - 1]?=some (.d x):=by simp
T! aa1(l:List D)(x:D):((l++[x]).map Z.d).dropLast=l.map .d:=by rw[List.map_append];~List.dropLast_concat
T! yF(h:ρ[i]?=some (some (.loc 1))):jw i ρ (bO (ts++[x]) cs p o)=.ok (.d x) (bO ts cs p o):=by
 u! jw;rw[h]
 show(match((ts++[x]).map Z.d)[((ts++[x]).map Z.d).length - 1]? with
  |some z=>RX.ok z ((bO (ts++[x]) cs p o).set 1 (.li ((ts++[x]).map Z.d).dropLast))
  |none=>RX.bad)=_
 rw[aca,aa1];rfl
T! Ha(h:ρ[i]?=some (some (.loc 2))):jw i ρ (bO ts (cs++[x]) p o)=.ok (.d x) (bO ts cs p o):=by
 u! jw;rw[h]
 show(match((cs++[x]).map Z.d)[((cs++[x]).map Z.d).length - 1]? with
  |some z=>RX.ok z ((bO ts (cs++[x]) p o).set 2 (.li ((cs++[x]).map Z.d).dropLast))
  |none=>RX.bad)=_
 rw[aca,aa1];rfl
T! Js(h:ρ[i]?=some (some (.loc 1)))(e:f ρ (bO ts cs p o)=.ok (.d x) (bO ts' cs' p' o'))(hl:ts'.length<=1000):jb i f ρ (bO ts cs p o)=.nx ρ (bO (ts'++[x]) cs' p' o'):=by
 u! jb;rw[h];show toZ (f ρ (bO ts cs p o)) _=_;rw[e];show(if(ts'.map Z.d).length<sizeLine then aU.nx ρ ((bO ts' cs' p' o').set 1 (.li (ts'.map Z.d++[.d x])))else .bad)=_;rw[List.length_map,if_pos (lt_size o?)];u! bO;rw[List.map_append];rfl
T! zx(h:ρ[i]?=some (some (.loc 2)))(e:f ρ (bO ts cs p o)=.ok (.d x) (bO ts' cs' p' o'))(hl:cs'.length<=1000):jb i f ρ (bO ts cs p o)=.nx ρ (bO ts' (cs'++[x]) p' o'):=by
 u! jb;rw[h];show toZ (f ρ (bO ts cs p o)) _=_;rw[e];show(if(cs'.map Z.d).length<sizeLine then aU.nx ρ ((bO ts' cs' p' o').set 2 (.li (cs'.map Z.d++[.d x])))else .bad)=_;rw[List.length_map,if_pos (lt_size o?)];u! bO;rw[List.map_append];rfl
T! Rk(h:ρ[i]?=some (some (.loc 0))):gq (zV i) #"terms" ρ (bO ts cs p o)=.ok (.loc 1) (bO ts cs p o):=by
 u! gq zV;rw[h];rfl
T! Rj(h:ρ[i]?=some (some (.loc 0))):gq (zV i) #"conds" ρ (bO ts cs p o)=.ok (.loc 2) (bO ts cs p o):=by
 u! gq zV;rw[h];rfl
T! abr(h:ρ[i]?=some (some (.loc 0))):gq (zV i) #"parts" ρ (bO ts cs p o)=.ok (.d (.int p)) (bO ts cs p o):=by
 u! gq zV;rw[h];rfl
T! abq(h:ρ[i]?=some (some (.loc 0))):gq (zV i) #"over" ρ (bO ts cs p o)=.ok (.d (.int o)) (bO ts cs p o):=by
 u! gq zV;rw[h];rfl
T! aoD{k:Int}(h:ρ[i]?=some (some (.loc 0)))(e:f ρ (bO ts cs p o)=.ok (.d (.int k)) (bO ts cs p o)):uY (zV i) #"over" f ρ (bO ts cs p o)=.nx ρ (bO ts cs p k):=by
 u! uY;rw[e];u! zV;show toZ (match ρ[i]? with|some (some z)=>_|_=>_) _=_;rw[h];rfl
T! aoE{k:Int}(h:ρ[i]?=some (some (.loc 0)))(e:f ρ (bO ts cs p o)=.ok (.d (.int k)) (bO ts cs p o)):uY (zV i) #"parts" f ρ (bO ts cs p o)=.nx ρ (bO ts cs k o):=by
 u! uY;rw[e];u! zV;show toZ (match ρ[i]? with|some (some z)=>_|_=>_) _=_;rw[h];rfl
T! gJ{g:Ev->R D}{d:D}(e:g (dB ρ)=.ok d):zD g ρ S=.ok (.d d) S:=by u! zD;rw[e];rfl
T! Yt{g:Ev->R Bool}{d:Bool}(e:g (dB ρ)=.ok d):zB g ρ S=.ok d S:=by u! zB;rw[e];rfl
T! vd{g:Ev->R Bool}{d:Bool}(e:g (vw S ρ)=.ok d):gf g ρ S=.ok d S:=by u! gf;rw[e]
T! pA:aW ρ S=.ok [] S:=rfl
T! gh{r:aJ->aC->RX (List Z)}{z:Z}{zs:List Z}(e:f ρ S=.ok z S1)(e2:r ρ S1=.ok zs S2):aN f r ρ S=.ok (z::zs) S2:=by
 u! aN;rw[e];show(r ρ S1).bind _=_;rw[e2];rfl
T! tG{g:R!}{r:aJ->aC->RX (List Z)}{ds:List D}{d:D}(e:r ρ S=.ok (ds.map .d) S1)(e2:g ds=.ok d):zF g r ρ S=.ok (.d d) S1:=by
 u! zF;rw[e];show(match jg (ds.map Z.d)with|some ds=>_|none=>_)=_;rw[zA];show RX.bind (iC (g ds) S1) _=_;rw[e2];rfl
T! Yw{c d:aJ->aC->RX Bool}{k:Bool}(e:c ρ S=.ok true S1)(e2:d ρ S1=.ok k S2):u6 c d ρ S=.ok k S2:=by u! u6;rw[e];~e2
T! agO{c d:aJ->aC->RX Bool}(e:c ρ S=.ok false S1):u6 c d ρ S=.ok false S1:=by u! u6;rw[e];rfl
T! yX{g:D->D->R D}{fa fb:K!}{u v w:D}(e1:fa ρ S=.ok (.d u) S1)(e2:fb ρ S1=.ok (.d v) S2)(e3:g u v=.ok w):z2 g fa fb ρ S=.ok (.d w) S2:=by
 u! z2;rw[e1];show(fb ρ S1).bind _=_;rw[e2];show RX.bind (iC (g u v) S2) _=_;rw[e3];rfl
T! agP{g:D->R Bool}{u:D}{k:Bool}(e1:f ρ S=.ok (.d u) S1)(e3:g u=.ok k):il g f ρ S=.ok k S1:=by
 u! il;rw[e1];show iC (g u) S1=_;rw[e3];rfl
end
end WC
namespace WC
open PySem L2 P2 WP TM T2 PySem.NumText
variable{a:Ad}
D! wt(ts:List Tm):Nat:=(ts.map Tm.sz).sum
D! wc(cs:List Cn):Nat:=(cs.map Cn.sz).sum
D! vt(ts:List Tm):Nat:=(ts.map jD).sum
D! vc(cs:List Cn):Nat:=(cs.map gQ).sum
T! CJ(x y:List Tm):vt (x++y)=vt x+vt y:=by u! vt;rw[List.map_append,List.sum_append]
T! Ia(x y:List Cn):vc (x++y)=vc x+vc y:=by u! vc;rw[List.map_append,List.sum_append]
T! CN(x:Tm):vt [x]=jD x:=by simp[vt]
T! CG(x:Cn):vc [x]=gQ x:=by simp[vc]
T! qY(x y:List Tm):wt (x++y)=wt x+wt y:=by u! wt;rw[List.map_append,List.sum_append]
T! tD(x y:List Cn):wc (x++y)=wc x+wc y:=by u! wc;rw[List.map_append,List.sum_append]
T! qZ(x:Tm):wt [x]=x.sz:=by simp[wt]
T! qW(x:Cn):wc [x]=x.sz:=by simp[wc]
structure Inv(ts:List Tm)(cs:List Cn)(p o:Int):Prop where
 tO:∀t∈ts,t.Ok
 cO:∀c∈cs,c.Ok
 sum:((wt ts+wc cs:Nat):Int)=p
 bd:p+dY ts.length cs.length<=30
 ov:((vt ts+vc cs:Nat):Int)=o/\o<=3
T! aeQ(t c:Nat):0<=dY t c:=by
 u! dY;split<;>om
T! HY{α:Type}{l:List α}(h:1<l.length):∃k u v,l=k++[u]++[v]:=by
 h! e1:=List.dropLast_concat_getLast (l:=l) (by intro w;rw[w]at h;simp at h);h! e2:=List.dropLast_concat_getLast (l:=l.dropLast) (by intro w;h!:=congrArg List.length w;simp at this;om);~\(_,_,_,by rw[e2,e1])
T! acT{α:Type}{l:List α}(h:0<l.length):∃k u,l=k++[u]:=by
 h! e1:=List.dropLast_concat_getLast (l:=l) (by intro w;rw[w]at h;simp at h);~\(_,_,e1.symm)
T! yo{t:Tm}(h:t.Ok)(n:t.sz<=200):t.tx.length<=10000:=by h!:=Tm.len h;om
T! Gw{t:Cn}(h:t.Ok)(n:t.sz<=200):t.tx.length<=10000:=by h!:=Cn.len h;om
A! aH(ts:List Tm)(cs:List Cn)(p o:Int):aC:=bO (ts.map tri) (cs.map bc) p o
T! SX(l:List Tm)(u v:Tm):(l++[u]++[v]).map tri=(l.map tri++[tri u])++[tri v]:=by simp
T! GC(l:List Tm)(u:Tm):(l++[u]).map tri=l.map tri++[tri u]:=by simp
T! acB(l:List Cn)(u v:Cn):(l++[u]++[v]).map bc=(l.map bc++[bc u])++[bc v]:=by simp
T! Bk(l:List Cn)(u:Cn):(l++[u]).map bc=l.map bc++[bc u]:=by simp
D! rh(c h k:Int)(s:Option Z):aJ:=[some (.loc 0),some (.d (.int c)),some (.d (.int h)),some (.loc 1),some (.loc 2),some (.d (.int k)),s]
T! Ie{ts cs:List D}{p o c h k:Int}:vw (bO ts cs p o) (rh c h k none)=[.no,.sh (.int c),.sh (.int h),.sh (.lst ts),.sh (.lst cs),.sh (.int k),.no]:=by
 u! vw rh;S![List.map_cons,List.map_nil];h! e1:sX (bO ts cs p o) (some (.loc 1))=.sh (.lst ts):=by
  show(match jg (ts.map Z.d)with|some ds=>Sl.sh (.lst ds)|none=>.no)=_;rw[zA]
 h! e2:sX (bO ts cs p o) (some (.loc 2))=.sh (.lst cs):=by
  show(match jg (cs.map Z.d)with|some ds=>Sl.sh (.lst ds)|none=>.no)=_;rw[zA]
 rw[e1,e2];rfl
T! Ln{k:Nat}(hk:k<16):(cT (.int k) (.tup [.int 6,.int 7])=.ok (.bl (decide (k=6\/k=7))))/\(cT (.int k) (.tup [.int 8,.int 9])=.ok (.bl (decide (k=8\/k=9))))/\(cT (.int k) (.tup [.int 10,.int 11])=.ok (.bl (decide (k=10\/k=11))))/\(cT (.int k) (.tup [.int 13,.int 14])=.ok (.bl (decide (k=13\/k=14)))):=by
 h!:k=0\/k=1\/k=2\/k=3\/k=4\/k=5\/k=6\/k=7\/k=8\/k=9\/k=10\/k=11\/k=12\/k=13\/k=14\/k=15:=(by decide+kernel:∀k<16,k=0\/k=1\/k=2\/k=3\/k=4\/k=5\/k=6\/k=7\/k=8\/k=9\/k=10\/k=11\/k=12\/k=13\/k=14\/k=15) k hk;rcases this with rfl|rfl|rfl|rfl|rfl|rfl|rfl|rfl|rfl|rfl|rfl|rfl|rfl|rfl|rfl|rfl<;>~\(rfl,rfl,rfl,rfl)
section
variable{ts cs:List D}{p o c h:Int}{k:Nat}(hk:k<16)
include hk
T! Cw:gf (qm (P2.b1 tB (d2 cT &5 (dA bK (ak #6 (ak #7 aB))))) (P2.b1 tB (d2 eG (dA cj (ak &3 aB)) #1))) (rh c h k none) (bO ts cs p o)=.ok (decide ((k=6\/k=7)/\1<ts.length)) (bO ts cs p o):=by
 o!⟨i1,i2,i3,i4⟩:=Ln hk;r! vd ?_;rw[Ie];by_cases z:k=6\/k=7
 ·iterate 4 (walk_at "den";try S![i1,z,true_and,decide_true,gt_iff_lt])
  congr 1
  apply decide_eq_decide.mpr;om
 ·iterate 4 (walk_at "den";try S![i1,z,false_and,decide_false])
T! Ob:gf (qm (P2.b1 tB (d2 cT &5 (dA bK (ak #10 (ak #11 aB))))) (P2.b1 tB (d2 eG (dA cj (ak &3 aB)) #1))) (rh c h k none) (bO ts cs p o)=.ok (decide ((k=10\/k=11)/\1<ts.length)) (bO ts cs p o):=by
 o!⟨i1,i2,i3,i4⟩:=Ln hk;r! vd ?_;rw[Ie];by_cases z:k=10\/k=11
 ·iterate 4 (walk_at "den";try S![i3,z,true_and,decide_true,gt_iff_lt])
  congr 1
  apply decide_eq_decide.mpr;om
 ·iterate 4 (walk_at "den";try S![i3,z,false_and,decide_false])
T! afR:gf (qm (P2.b1 tB (d2 cT &5 (dA bK (ak #13 (ak #14 aB))))) (P2.b1 tB (d2 eG (dA cj (ak &4 aB)) #1))) (rh c h k none) (bO ts cs p o)=.ok (decide ((k=13\/k=14)/\1<cs.length)) (bO ts cs p o):=by
 o!⟨i1,i2,i3,i4⟩:=Ln hk;r! vd ?_;rw[Ie];by_cases z:k=13\/k=14
 ·iterate 4 (walk_at "den";try S![i4,z,true_and,decide_true,gt_iff_lt])
  congr 1
  apply decide_eq_decide.mpr;om
 ·iterate 4 (walk_at "den";try S![i4,z,false_and,decide_false])
T! XQ:gf (qm (P2.b1 tB (d2 cX &5 #12)) (P2.b1 tB (d2 eG (dA cj (ak &4 aB)) #0))) (rh c h k none) (bO ts cs p o)=.ok (decide (k=12/\0<cs.length)) (bO ts cs p o):=by
 r! vd ?_;rw[Ie];by_cases z:k=12
 ·h! z':(k:Int)=12:=by om
  iterate 4 (walk_at "den";try S![z,z',true_and,decide_true,gt_iff_lt,Int.cast_ofNat_Int])
  congr 1
  apply decide_eq_decide.mpr;om
 ·h! z':¬(k:Int)=12:=by om
  iterate 4 (walk_at "den";try S![z,z',false_and,decide_false])
T! HX:(u6 (zB (P2.b1 tB (d2 cT &5 (dA bK (ak #8 (ak #9 aB)))))) (u6 (gf (P2.b1 tB (d2 eG (dA cj (ak &3 aB)) #0))) (il tB (z2 nZ (gq (zV 0) #"over") (zD #3))))) (rh c h k none) (bO ts cs p o)=.ok (decide ((k=8\/k=9)/\0<ts.length/\o<3)) (bO ts cs p o):=by
 o!⟨i1,i2,i3,i4⟩:=Ln hk;h! b1:(P2.b1 tB (d2 cT &5 (dA bK (ak #8 (ak #9 aB))))) (dB (rh c h k none))=.ok (decide (k=8\/k=9)):=by
  show(P2.b1 tB (d2 cT &5 (dA bK (ak #8 (ak #9 aB))))) [.no,.sh (.int c),.sh (.int h),.no,.no,.sh (.int k),.no]=_;iterate 4 (walk_at "den";try S![i2])
 h! b2:(gf (P2.b1 tB (d2 eG (dA cj (ak &3 aB)) #0))) (rh c h k none) (bO ts cs p o)=.ok (decide (0<ts.length)) (bO ts cs p o):=by
  r! vd ?_;rw[Ie];iterate 4 (walk_at "den";try S![gt_iff_lt])
  congr 1
  apply decide_eq_decide.mpr;om
 h! b3:(il tB (z2 nZ (gq (zV 0) #"over") (zD #3))) (rh c h k none) (bO ts cs p o)=.ok (decide (o<3)) (bO ts cs p o):=agP (yX (abq rfl) (gJ rfl) rfl) rfl;by_cases z1:k=8\/k=9
 ·rw[decide_eq_true z1]at b1
  by_cases z2:0<ts.length
  ·rw[decide_eq_true z2]at b2
   rw[Yw (Yt b1) (Yw b2 b3)];simp[z1,z2]
  ·rw[decide_eq_false z2]at b2
   rw[Yw (Yt b1) (agO b2)];simp[z2]
 ·rw[decide_eq_false z1]at b1
  rw[agO (Yt b1)];simp[z1]
end
structure Oz(Di Dh fQ Df lF xm:R!):Prop where
 su:∀(x y:Tm) (s:Bool),x.tx.length<=10000->y.tx.length<=10000->Di [tri x,tri y,.str (sg s)]=.ok (tri (.bin s x y))
 ov:∀(x:Tm) (c:Int),x.Ok->x.tx.length<=10000->∃t:Tm,t.Ok/\t.sz=x.sz+1/\jD t=jD x+1/\Dh [tri x,.int c]=.ok (tri t)
 co:∀(x y:Tm) (s:Bool),x.tx.length<=10000->y.tx.length<=10000->fQ [tri x,tri y,.str (cg s)]=.ok (bc (.cmp s x y))
 de:∀(x:Cn),x.tx.length<=10000->Df [bc x]=.ok (bc (.not x))
 jo:∀(x y:Cn) (s:Bool),x.tx.length<=10000->y.tx.length<=10000->lF [bc x,bc y,.str (cw s)]=.ok (bc (.two s x y))
 le:∀h c:Int,∃t:Tm,t.Ok/\t.sz=1/\xm [.int h,.int c]=.ok (tri t)
section
variable{Di Dh fQ Df lF xm:R!}
T! alq(F:Oz Di Dh fQ Df lF xm){ts:List Tm}{cs:List Cn}{p o:Int}(I:Inv ts cs p o)(hr:p+1+dY ts.length cs.length<=30)(hr2:p+1+dY (ts.length+1) cs.length<=30)(c h:Int)(b:Nat):
    ∃ts' cs' o',Inv ts' cs' (p+1) o'/\bw (KC a Di Dh fQ Df lF xm b (bG 7 [.loc 0,.d (.int c),.d (.int h)]) (aH ts cs p o))=.ok (.d .non) (aH ts' cs' (p+1) o'):=by
 h! hS:=I.sum;h! r0:=aeQ ts.length cs.length;o!⟨k,hk⟩:=Int.eq_ofNat_of_zero_le (show 0<=c%16 by om);h! jP:k<16:=by om
 h! lts:ts.length<=30:=by
  h!:∀l:List Tm,l.length<=wt l:=λl=>by
   induction l with
   |nil=>~Nat.le_refl _
   |cons t l ih=>have:=t.pos;show l.length+1<=t.sz+wt l;om
  h!:=this ts;om
 h! lcs:cs.length<=30:=by
  h!:∀l:List Cn,l.length<=wc l:=λl=>by
   induction l with
   |nil=>~Nat.le_refl _
   |cons t l ih=>have:1<=t.sz:=by c! t<;>(S![Cn.sz];om)
                 show l.length+1<=t.sz+wc l;om
  h!:=this cs;om
 h! parts:∀(ρ:aJ) (ts' cs':List D) (o':Int),ρ[0]?=some (some (.loc 0))->uY (zV 0) #"parts" (z2 aP (gq (zV 0) #"parts") (zD #1)) ρ (bO ts' cs' p o')=.nx ρ (bO ts' cs' (p+1) o'):=λρ ts' cs' o' e=>aoE e (yX (abr e) (gJ rfl) rfl)
 h! whole:∀(g:aJ->aC->aU) (h1:aJ) (ts':List Tm) (cs':List Cn) (o':Int),h1[0]?=some (some (.loc 0))->g (rh c h k none) (aH ts cs p o)=.nx h1 (aH ts' cs' p o')->bw ((aY (cU 3 (gq (zV 0) #"terms")) (aY (cU 4 (gq (zV 0) #"conds")) (aY (cU 5 (zD (d2 eZ &1 #16))) (aY g (uY (zV 0) #"parts" (z2 aP (gq (zV 0) #"parts") (zD #1))))))) (bG 7 [.loc 0,.d (.int c),.d (.int h)]) (aH ts cs p o))=.ok (.d .non) (aH ts' cs' (p+1) o'):=by
  intro g h1 ts' cs' o' e0 e1;h! m:(d2 eZ &1 #16) (dB ([some (.loc 0),some (.d (.int c)),some (.d (.int h)),some (.loc 1),some (.loc 2),none,none]:aJ))=.ok (.int k):=by
   show(d2 eZ &1 #16) [.no,.sh (.int c),.sh (.int h),.no,.no,.no,.no]=_;iterate 3 (walk_at "den";try S![hk])
  rw[gR (oH (Rk rfl) (by simp[bG])),gR (oH (Rj rfl) (by simp[bG]))];show bw (aY (cU 5 (zD (d2 eZ &1 #16))) _ ([some (.loc 0),some (.d (.int c)),some (.d (.int h)),some (.loc 1),some (.loc 2),none,none]:aJ) (aH ts cs p o))=_;rw[gR (oH (gJ m) (by simp))];show bw (aY g _ (rh c h k none) (aH ts cs p o))=_;rw[gR e1,parts _ _ _ _ e0];rfl
 u! KC;by_cases B1:(k=6\/k=7)/\1<ts.length
 ·o!⟨l,u,v,e⟩:=HY B1.2
  h! t1:=Cw (ts:=ts.map tri) (cs:=cs.map bc) (p:=p) (o:=o) (c:=c) (h:=h) jP;rw[List.length_map,decide_eq_true B1]at t1;subst e;rw[qY,qY,qZ,qZ]at hS;h! su:=F.su u v (decide (k=6)) (yo (I.tO u (by simp)) o?) (yo (I.tO v (by simp)) o?);r!\(l++[.bin (decide (k=6)) u v],cs,o,\(?_,I.cO,?_,?_,by h! q:=I.ov;S![CJ,CN,jD]at q⊢;om),?_)
  ·intro t ht
   S![List.mem_append,List.mem_singleton]at ht;rcases ht with ht|rfl;·~I.tO t (by simp[ht])
   ·~\(I.tO u (by simp),I.tO v (by simp))
  ·rw[qY,qZ];show((wt l+(u.sz+v.sz+1)+wc cs:Nat):Int)=_;om
  ·S![List.length_append,List.length_cons,List.length_nil]at hr hr2⊢
   u! dY at*;split at hr2<;>split<;>om
  ·r! whole _ (rh c h k (some (.d (tri v)))) _ _ _ rfl ?_
   rw[tE t1];show _=aU.nx _ (bO ((l++[Tm.bin (decide (k=6)) u v]).map tri) (cs.map bc) p o);rw[SX,GC];rw[gR (oH (yF rfl) (by simp[rh]))];r! Js rfl (tG (ds:=[tri u,tri v,.str (sg (decide (k=6)))]) (gh (yF rfl) (gh (gJ rfl) (gh (gJ ?_) pA))) su) (by simp at lts⊢;om);rcases B1.1 with rfl|rfl<;>rfl
 by_cases B2:(k=8\/k=9)/\0<ts.length/\o<3
 ·o!⟨l,u,e⟩:=acT B2.2.1
  h! t1:=Cw (ts:=ts.map tri) (cs:=cs.map bc) (p:=p) (o:=o) (c:=c) (h:=h) jP;h! t2:=HX (ts:=ts.map tri) (cs:=cs.map bc) (p:=p) (o:=o) (c:=c) (h:=h) jP;rw[List.length_map,decide_eq_false B1]at t1;rw[List.length_map,decide_eq_true B2]at t2;subst e;rw[qY,qZ]at hS;h! uO:=I.tO u (by simp);o!⟨t,tO,tz,tv,te⟩:=F.ov u (c/16) uO (yo uO o?);r!\(l++[t],cs,o+1,\(?_,I.cO,?_,?_,by h! q:=I.ov;h! b:=B2;S![CJ,CN,tv]at q⊢;om),?_)
  ·intro t' ht
   S![List.mem_append,List.mem_singleton]at ht;rcases ht with ht|rfl;·~I.tO t' (by simp[ht])
   ·~tO
  ·rw[qY,qZ,tz];om
  ·S![List.length_append,List.length_cons,List.length_nil]at hr hr2⊢
   ~hr
  ·r! whole _ (rh c h k none) _ _ _ rfl ?_
   rw[jE t1,tE t2];show _=aU.nx _ (bO ((l++[t]).map tri) (cs.map bc) p (o+1));rw[GC,GC];h! fd:(d2 fW &1 #16) (dB (rh c h k none))=.ok (.int (c/16)):=by
    show(d2 fW &1 #16) [.no,.sh (.int c),.sh (.int h),.no,.no,.sh (.int k),.no]=_;walk_at "den"
   rw[gR (Js rfl (tG (ds:=[tri u,.int (c/16)]) (gh (yF rfl) (gh (gJ fd) pA)) te) (by simp at lts⊢;om))];~aoD rfl (yX (abq rfl) (gJ rfl) rfl)
 by_cases B3:(k=10\/k=11)/\1<ts.length
 ·o!⟨l,u,v,e⟩:=HY B3.2
  h! t1:=Cw (ts:=ts.map tri) (cs:=cs.map bc) (p:=p) (o:=o) (c:=c) (h:=h) jP;h! t2:=HX (ts:=ts.map tri) (cs:=cs.map bc) (p:=p) (o:=o) (c:=c) (h:=h) jP;h! t3:=Ob (ts:=ts.map tri) (cs:=cs.map bc) (p:=p) (o:=o) (c:=c) (h:=h) jP;rw[List.length_map,decide_eq_false B1]at t1;rw[List.length_map,decide_eq_false B2]at t2;rw[List.length_map,decide_eq_true B3]at t3;subst e;rw[qY,qY,qZ,qZ]at hS;h! co:=F.co u v (decide (k=10)) (yo (I.tO u (by simp)) o?) (yo (I.tO v (by simp)) o?);r!\(l,cs++[.cmp (decide (k=10)) u v],o,\(λt ht=>I.tO t (by simp[ht]),?_,?_,?_,by h! q:=I.ov;S![CJ,CN,Ia,CG,gQ]at q⊢;om),?_)
  ·intro t ht
   S![List.mem_append,List.mem_singleton]at ht;rcases ht with ht|rfl;·~I.cO t ht
   ·~\(I.tO u (by simp),I.tO v (by simp))
  ·rw[tD,qW];show((wt l+(wc cs+(u.sz+v.sz+1)):Nat):Int)=_;om
  ·S![List.length_append,List.length_cons,List.length_nil]at hr hr2⊢
   u! dY at*;split at hr<;>split<;>om
  ·r! whole _ (rh c h k (some (.d (tri v)))) _ _ _ rfl ?_
   rw[jE t1,jE t2,tE t3];show _=aU.nx _ (bO (l.map tri) ((cs++[Cn.cmp (decide (k=10)) u v]).map bc) p o);rw[SX,Bk];rw[gR (oH (yF rfl) (by simp[rh]))];r! zx rfl (tG (ds:=[tri u,tri v,.str (cg (decide (k=10)))]) (gh (yF rfl) (gh (gJ rfl) (gh (gJ ?_) pA))) co) g!;rcases B3.1 with rfl|rfl<;>rfl
 by_cases B4:k=12/\0<cs.length
 ·o!⟨l,u,e⟩:=acT B4.2
  h! t1:=Cw (ts:=ts.map tri) (cs:=cs.map bc) (p:=p) (o:=o) (c:=c) (h:=h) jP;h! t2:=HX (ts:=ts.map tri) (cs:=cs.map bc) (p:=p) (o:=o) (c:=c) (h:=h) jP;h! t3:=Ob (ts:=ts.map tri) (cs:=cs.map bc) (p:=p) (o:=o) (c:=c) (h:=h) jP;h! t4:=XQ (ts:=ts.map tri) (cs:=cs.map bc) (p:=p) (o:=o) (c:=c) (h:=h) jP;rw[List.length_map,decide_eq_false B1]at t1;rw[List.length_map,decide_eq_false B2]at t2;rw[List.length_map,decide_eq_false B3]at t3;rw[List.length_map,decide_eq_true B4]at t4;subst e;rw[tD,qW]at hS;h! de:=F.de u (Gw (I.cO u (by simp)) o?);r!\(ts,l++[.not u],o,\(I.tO,?_,?_,?_,by h! q:=I.ov;S![Ia,CG,gQ]at q⊢;om),?_)
  ·intro t ht
   S![List.mem_append,List.mem_singleton]at ht;rcases ht with ht|rfl;·~I.cO t (by simp[ht])
   ·~I.cO u (by simp)
  ·rw[tD,qW];show((wt ts+(wc l+(u.sz+1)):Nat):Int)=_;om
  ·S![List.length_append,List.length_cons,List.length_nil]at hr hr2⊢
   ~hr
  ·r! whole _ (rh c h k none) _ _ _ rfl ?_
   rw[jE t1,jE t2,jE t3,tE t4];show _=aU.nx _ (bO (ts.map tri) ((l++[Cn.not u]).map bc) p o);rw[Bk,Bk];~zx rfl (tG (ds:=[bc u]) (gh (Ha rfl) pA) de) (by simp at lcs⊢;om)
 by_cases B5:(k=13\/k=14)/\1<cs.length
 ·o!⟨l,u,v,e⟩:=HY B5.2
  h! t1:=Cw (ts:=ts.map tri) (cs:=cs.map bc) (p:=p) (o:=o) (c:=c) (h:=h) jP;h! t2:=HX (ts:=ts.map tri) (cs:=cs.map bc) (p:=p) (o:=o) (c:=c) (h:=h) jP;h! t3:=Ob (ts:=ts.map tri) (cs:=cs.map bc) (p:=p) (o:=o) (c:=c) (h:=h) jP;h! t4:=XQ (ts:=ts.map tri) (cs:=cs.map bc) (p:=p) (o:=o) (c:=c) (h:=h) jP;h! t5:=afR (ts:=ts.map tri) (cs:=cs.map bc) (p:=p) (o:=o) (c:=c) (h:=h) jP;rw[List.length_map,decide_eq_false B1]at t1;rw[List.length_map,decide_eq_false B2]at t2;rw[List.length_map,decide_eq_false B3]at t3;rw[List.length_map,decide_eq_false B4]at t4;rw[List.length_map,decide_eq_true B5]at t5;subst e;rw[tD,tD,qW,qW]at hS;h! jo:=F.jo u v (decide (k=13)) (Gw (I.cO u (by simp)) o?) (Gw (I.cO v (by simp)) o?);r!\(ts,l++[.two (decide (k=13)) u v],o,\(I.tO,?_,?_,?_,by h! q:=I.ov;S![Ia,CG,gQ]at q⊢;om),?_)
  ·intro t ht
   S![List.mem_append,List.mem_singleton]at ht;rcases ht with ht|rfl;·~I.cO t (by simp[ht])
   ·~\(I.cO u (by simp),I.cO v (by simp))
  ·rw[tD,qW];show((wt ts+(wc l+(u.sz+v.sz+1)):Nat):Int)=_;om
  ·S![List.length_append,List.length_cons,List.length_nil]at hr hr2⊢
   u! dY at*;split at hr<;>split<;>om
  ·r! whole _ (rh c h k (some (.d (bc v)))) _ _ _ rfl ?_
   rw[jE t1,jE t2,jE t3,jE t4,tE t5];show _=aU.nx _ (bO (ts.map tri) ((l++[Cn.two (decide (k=13)) u v]).map bc) p o);rw[acB,Bk];rw[gR (oH (Ha rfl) (by simp[rh]))];r! zx rfl (tG (ds:=[bc u,bc v,.str (cw (decide (k=13)))]) (gh (Ha rfl) (gh (gJ rfl) (gh (gJ ?_) pA))) jo) (by simp at lcs⊢;om);rcases B5.1 with rfl|rfl<;>rfl
 ·h! t1:=Cw (ts:=ts.map tri) (cs:=cs.map bc) (p:=p) (o:=o) (c:=c) (h:=h) jP
  h! t2:=HX (ts:=ts.map tri) (cs:=cs.map bc) (p:=p) (o:=o) (c:=c) (h:=h) jP;h! t3:=Ob (ts:=ts.map tri) (cs:=cs.map bc) (p:=p) (o:=o) (c:=c) (h:=h) jP;h! t4:=XQ (ts:=ts.map tri) (cs:=cs.map bc) (p:=p) (o:=o) (c:=c) (h:=h) jP;h! t5:=afR (ts:=ts.map tri) (cs:=cs.map bc) (p:=p) (o:=o) (c:=c) (h:=h) jP;rw[List.length_map,decide_eq_false B1]at t1;rw[List.length_map,decide_eq_false B2]at t2;rw[List.length_map,decide_eq_false B3]at t3;rw[List.length_map,decide_eq_false B4]at t4;rw[List.length_map,decide_eq_false B5]at t5;o!⟨t,tO,tz,te⟩:=F.le h (c/16);r!\(ts++[t],cs,o,\(?_,I.cO,?_,?_,by h! q:=I.ov;S![CJ,CN,anD tz]at q⊢;om),?_)
  ·intro t' ht
   S![List.mem_append,List.mem_singleton]at ht;rcases ht with ht|rfl;·~I.tO t' ht
   ·~tO
  ·rw[qY,qZ,tz];om
  ·S![List.length_append,List.length_cons,List.length_nil]
   ~hr2
  ·r! whole _ (rh c h k none) _ _ _ rfl ?_
   rw[jE t1,jE t2,jE t3,jE t4,jE t5];show _=aU.nx _ (bO ((ts++[t]).map tri) (cs.map bc) p o);rw[GC];h! fd:(dA xm (ak &2 (ak (d2 fW &1 #16) aB))) (dB (rh c h k none))=.ok (tri t):=by
    show(dA xm (ak &2 (ak (d2 fW &1 #16) aB))) [.no,.sh (.int c),.sh (.int h),.no,.no,.sh (.int k),.no]=_;iterate 3 (walk_at "den";try S![te])
   ~Js rfl (gJ fd) g!
D! re(w:Str)(s4 s5:Option Z):aJ:=[some (.loc 0),some (.d (.str w)),some (.loc 1),some (.loc 2),s4,s5]
T! Ib{ts cs:List D}{p o:Int}{w:Str}{s4 s5:Option Z}:∃u v,vw (bO ts cs p o) (re w s4 s5)=[.no,.sh (.str w),.sh (.lst ts),.sh (.lst cs),u,v]:=by
 r!\(sX (bO ts cs p o) s4,sX (bO ts cs p o) s5,?_);u! vw re;S![List.map_cons,List.map_nil];h! e1:sX (bO ts cs p o) (some (.loc 1))=.sh (.lst ts):=by
  show(match jg (ts.map Z.d)with|some ds=>Sl.sh (.lst ds)|none=>.no)=_;rw[zA]
 h! e2:sX (bO ts cs p o) (some (.loc 2))=.sh (.lst cs):=by
  show(match jg (cs.map Z.d)with|some ds=>Sl.sh (.lst ds)|none=>.no)=_;rw[zA]
 rw[e1,e2];rfl
structure Jg(ts:List Tm)(cs:List Cn)(n v:Nat):Prop where
 tO:∀t∈ts,t.Ok
 cO:∀c∈cs,c.Ok
 sum:wt ts+wc cs+ts.length+cs.length=n
 ov:vt ts+vc cs=v
T! ack(hc:∀(x y:Tm) (s:Bool),x.tx.length<=10000->y.tx.length<=10000->fQ [tri x,tri y,.str (cg s)]=.ok (bc (.cmp s x y))){w:Str}{p o:Int}{n v0:Nat}(hn:n<=150):∀(f:Nat) (m:Nat) (ts:List Tm) (cs:List Cn) (s4 s5:Option Z),ts.length=2*m->m<f->Jg ts cs n v0->
    ∃cs' qP,Jg [] cs' n v0/\cs'.length=cs.length+m/\lB (gf (P2.b1 tB (d2 eG (dA cj (ak &2 aB)) #0))) (zH a fQ lF) f (re w s4 s5) (aH ts cs p o)=.nx (re w s4 qP) (aH [] cs' p o)
 |0,m,ts,cs,s4,s5,h1,h2,I=>by om
 |f+1,m,ts,cs,s4,s5,h1,h2,I=>by
  h! ik:(gf (P2.b1 tB (d2 eG (dA cj (ak &2 aB)) #0))) (re w s4 s5) (aH ts cs p o)=.ok (decide (0<ts.length)) (aH ts cs p o):=by
   r! vd ?_;o!⟨u,v,e⟩:=Ib (ts:=ts.map tri) (cs:=cs.map bc) (p:=p) (o:=o) (w:=w) (s4:=s4) (s5:=s5);rw[e];iterate 4 (walk_at "den";try S![gt_iff_lt])
   rw[List.length_map]
   congr 1
   apply decide_eq_decide.mpr;om
  show∃cs' qP,_/\_/\toZ ((gf (P2.b1 tB (d2 eG (dA cj (ak &2 aB)) #0))) (re w s4 s5) (aH ts cs p o)) _=_;rw[ik];by_cases z:0<ts.length
  ·o!⟨l,u,v,e⟩:=HY (show 1<ts.length by om)
   subst e;h! hS:=I.sum;rw[qY,qY,qZ,qZ]at hS;h! uO:=I.tO u (by simp);h! vO:=I.tO v (by simp);h! co:=hc u v true (yo uO o?) (yo vO o?);S![List.length_append,List.length_cons,List.length_nil]at h1 hS;h! lw:∀l:List Cn,l.length<=wc l:=λl=>by
    induction l with
    |nil=>~Nat.le_refl _
    |cons t l ih=>have:1<=t.sz:=by c! t<;>(S![Cn.sz];om)
                  show l.length+1<=t.sz+wc l;om
   h! lw:=lw cs;o!⟨cs',qP,I',l',e'⟩:=ack (v0:=v0) hc hn f (m - 1) l (cs++[.cmp true u v]) s4 (some (.d (tri v))) o? o? \(λt ht=>I.tO t (by simp[ht]),λt ht=>by
    S![List.mem_append,List.mem_singleton]at ht;rcases ht with ht|rfl;· ~I.cO t ht
    · ~\(uO,vO),by
    rw[tD,qW,List.length_append,List.length_singleton];show wt l+(wc cs+(u.sz+v.sz+1))+l.length+(cs.length+1)=n;om,by h! q:=I.ov;S![CJ,CN,Ia,CG,gQ]at q⊢;om)
   r!\(cs',qP,I',by rw[l',List.length_append,List.length_singleton];om,?_);h! bd:zH a fQ lF (re w s4 s5) (aH (l++[u]++[v]) cs p o)=.nx (re w s4 (some (.d (tri v)))) (aH l (cs++[.cmp true u v]) p o):=by
    u! zH;show _=aU.nx _ (bO (l.map tri) ((cs++[Cn.cmp true u v]).map bc) p o);show aY _ _ _ (bO ((l++[u]++[v]).map tri) (cs.map bc) p o)=_;rw[SX,Bk];rw[gR (oH (yF rfl) (by simp[re]))];~zx rfl (tG (ds:=[tri u,tri v,.str (cg true)]) (gh (yF rfl) (gh (gJ rfl) (gh (gJ rfl) pA))) co) g!
   show(if decide (0<(l++[u]++[v]).length)=true then mJ (zH a fQ lF (re w s4 s5) (aH (l++[u]++[v]) cs p o)) _ else _)=_;rw[if_pos (decide_eq_true z),bd];~e'
  ·h! e:ts=[]:=List.eq_nil_of_length_eq_zero o?
   subst e;~\(cs,s5,I,by simp at h1;om,rfl)
T! acn(hj:∀(x y:Cn) (s:Bool),x.tx.length<=10000->y.tx.length<=10000->lF [bc x,bc y,.str (cw s)]=.ok (bc (.two s x y))){w:Bool}{p o:Int}{n v0:Nat}(hn:n<=150):∀(f:Nat) (cs:List Cn) (s4 s5:Option Z),0<cs.length->cs.length<f->Jg [] cs n v0->
    ∃c qP,(c.Ok/\gQ c=v0)/\c.sz+1=n/\lB (gf (P2.b1 tB (d2 eG (dA cj (ak &3 aB)) #1))) (zK a fQ lF) f (re (cw w) s4 s5) (aH [] cs p o)=.nx (re (cw w) s4 qP) (aH [] [c] p o)
 |0,cs,s4,s5,h1,h2,I=>by om
 |f+1,cs,s4,s5,h1,h2,I=>by
  h! ik:(gf (P2.b1 tB (d2 eG (dA cj (ak &3 aB)) #1))) (re (cw w) s4 s5) (aH [] cs p o)=.ok (decide (1<cs.length)) (aH [] cs p o):=by
   r! vd ?_;o!⟨u,v,e⟩:=Ib (ts:=[].map tri) (cs:=cs.map bc) (p:=p) (o:=o) (w:=cw w) (s4:=s4) (s5:=s5);rw[e];iterate 4 (walk_at "den";try S![gt_iff_lt])
   rw[List.length_map]
   congr 1
   apply decide_eq_decide.mpr;om
  show∃c qP,_/\_/\toZ ((gf (P2.b1 tB (d2 eG (dA cj (ak &3 aB)) #1))) (re (cw w) s4 s5) (aH [] cs p o)) _=_;rw[ik];by_cases z:1<cs.length
  ·o!⟨l,u,v,e⟩:=HY z
   subst e;h! hS:=I.sum;rw[tD,tD,qW,qW]at hS;h! uO:=I.cO u (by simp);h! vO:=I.cO v (by simp);h! jo:=hj u v w (Gw uO o?) (Gw vO o?);S![List.length_append,List.length_cons,List.length_nil,show wt []=0 from rfl]at h2 hS;o!⟨c,qP,cO,cz,e'⟩:=acn (v0:=v0) hj hn f (l++[.two w u v]) s4 (some (.d (bc v))) (by simp) g! \(nofun,λt ht=>by
    S![List.mem_append,List.mem_singleton]at ht;rcases ht with ht|rfl;· ~I.cO t (by simp[ht])
    · ~\(uO,vO),by
    rw[tD,qW,List.length_append,List.length_singleton];show 0+(wc l+(u.sz+v.sz+1))+0+(l.length+1)=n;om,by h! q:=I.ov;S![Ia,CG,gQ]at q⊢;om)
   r!\(c,qP,cO,cz,?_);h! bd:zK a fQ lF (re (cw w) s4 s5) (aH [] (l++[u]++[v]) p o)=.nx (re (cw w) s4 (some (.d (bc v)))) (aH [] (l++[.two w u v]) p o):=by
    u! zK;show _=aU.nx _ (bO ([].map tri) ((l++[Cn.two w u v]).map bc) p o);show aY _ _ _ (bO ([].map tri) ((l++[u]++[v]).map bc) p o)=_;rw[acB,Bk];rw[gR (oH (Ha rfl) (by simp[re]))];~zx rfl (tG (ds:=[bc u,bc v,.str (cw w)]) (gh (Ha rfl) (gh (gJ rfl) (gh (gJ rfl) pA))) jo) g!
   show(if decide (1<(l++[u]++[v]).length)=true then mJ (zK a fQ lF (re (cw w) s4 s5) (aH [] (l++[u]++[v]) p o)) _ else _)=_;rw[if_pos (decide_eq_true z),bd];~e'
  ·o!⟨c,e⟩:=List.length_eq_one_iff.mp (show cs.length=1 by om)
   subst e;h! hS:=I.sum;rw[qW]at hS;~\(c,s5,\(I.cO c (by simp),by h! q:=I.ov;rw[CG]at q;simpa [vt]using q),by simp[wt]at hS;om,rfl)
T! Tm.gY(t:Tm):P2.gY t.d=true:=by
 induction t with
 |bin s x y h1 h2=>simp[Tm.d,P2.gY,pM,h1,h2]
 |times p q x h=>simp[Tm.d,P2.gY,pM,h]
 |abs x h=>simp[Tm.d,P2.gY,pM,h]
 |_=>simp[Tm.d,P2.gY,pM]
T! Cn.gY(t:Cn):P2.gY t.d=true:=by
 induction t with
 |cmp s x y=>simp[Cn.d,P2.gY,pM,Tm.gY]
 |not x h=>simp[Cn.d,P2.gY,pM,h]
 |two s x y h1 h2=>simp[Cn.d,P2.gY,pM,h1,h2]
T! arA(c:Cn):P2.gY (bc c)=true:=by simp[bc,P2.gY,pM,Cn.gY]
T! akY(F:Oz Di Dh fQ Df lF xm){ts:List Tm}{cs:List Cn}{p o:Int}(I:Inv ts cs p o)(w:Bool)(b:Nat):
    ∃c S',(c.Ok/\gQ c<=3)/\c.sz<=30/\bw (Ko a fQ lF b (bG 6 [.loc 0,.d (.str (cw w))]) (aH ts cs p o))=.ok (.d (bc c)) S':=by
 h! hS:=I.sum;h! hB:=I.bd;h! r0:=aeQ ts.length cs.length;h! lw:∀l:List Cn,l.length<=wc l:=λl=>by
  induction l with
  |nil=>~Nat.le_refl _
  |cons t l ih=>have:1<=t.sz:=by c! t<;>(S![Cn.sz];om)
                show l.length+1<=t.sz+wc l;om
 h! lv:∀l:List Tm,l.length<=wt l:=λl=>by
  induction l with
  |nil=>~Nat.le_refl _
  |cons t l ih=>have:=t.pos;show l.length+1<=t.sz+wt l;om
 h! l1:=lw cs;h! l2:=lv ts;u! Ko;rw[gR (oH (Rk rfl) (by simp[bG])),gR (oH (Rj rfl) (by simp[bG])),gR (oH (gJ rfl) (by simp[bG]))];show∃c S',_/\_/\bw (aY _ _ (re (cw w) (some (.d (tri .here))) none) (aH ts cs p o))=_;h! app:∀(us:List Tm),us.length<=100->jb 2 (zD &4) (re (cw w) (some (.d (tri .here))) none) (aH us cs p o)=.nx (re (cw w) (some (.d (tri .here))) none) (aH (us++[.here]) cs p o):=λus hu=>by
  show _=aU.nx _ (bO ((us++[Tm.here]).map tri) (cs.map bc) p o);rw[GC];~Js rfl (gJ rfl) g!
 h! if1:dH (gf (P2.b1 tB (d2 cX (d2 aP (dA cj (ak &2 aB)) (dA cj (ak &3 aB))) #0))) (jb 2 (zD &4)) f9 (re (cw w) (some (.d (tri .here))) none) (aH ts cs p o)=.nx (re (cw w) (some (.d (tri .here))) none) (aH (if ts.length+cs.length=0 then ts++[.here]else ts) cs p o):=by
  h! ik:(gf (P2.b1 tB (d2 cX (d2 aP (dA cj (ak &2 aB)) (dA cj (ak &3 aB))) #0))) (re (cw w) (some (.d (tri .here))) none) (aH ts cs p o)=.ok (decide (ts.length+cs.length=0)) (aH ts cs p o):=by
   r! vd ?_;o!⟨u,v,e⟩:=Ib (ts:=ts.map tri) (cs:=cs.map bc) (p:=p) (o:=o) (w:=cw w) (s4:=some (.d (tri .here))) (s5:=none);rw[e];iterate 4 (walk_at "den")
   rw[List.length_map,List.length_map]
   congr 1
   apply decide_eq_decide.mpr;om
  by_cases z:ts.length+cs.length=0
  ·rw[decide_eq_true z]at ik
   rw[tE ik,if_pos z];~app ts o?
  ·rw[decide_eq_false z]at ik
   rw[jE ik,if_neg z];rfl
 rw[gR if1];h! if2:∀us:List Tm,us.length<=100->dH (gf (P2.b1 tB (d2 cX (d2 eZ (dA cj (ak &2 aB)) #2) #1))) (jb 2 (zD &4)) f9 (re (cw w) (some (.d (tri .here))) none) (aH us cs p o)=.nx (re (cw w) (some (.d (tri .here))) none) (aH (if us.length%2=1 then us++[.here]else us) cs p o):=λus hu=>by
  h! ik:(gf (P2.b1 tB (d2 cX (d2 eZ (dA cj (ak &2 aB)) #2) #1))) (re (cw w) (some (.d (tri .here))) none) (aH us cs p o)=.ok (decide (us.length%2=1)) (aH us cs p o):=by
   r! vd ?_;o!⟨u,v,e⟩:=Ib (ts:=us.map tri) (cs:=cs.map bc) (p:=p) (o:=o) (w:=cw w) (s4:=some (.d (tri .here))) (s5:=none);rw[e];iterate 4 (walk_at "den")
   rw[List.length_map]
   congr 1
   apply decide_eq_decide.mpr;om
  by_cases z:us.length%2=1
  ·rw[decide_eq_true z]at ik
   rw[tE ik,if_pos z];~app us o?
  ·rw[decide_eq_false z]at ik
   rw[jE ik,if_neg z];rfl
 h! fin:∀(us:List Tm) (n m v0:Nat),us.length=2*m->0<us.length+cs.length->Jg us cs n v0->n<=31+30->v0<=3->∃c S',(c.Ok/\gQ c<=3)/\c.sz+1=n/\bw ((aY (lB (gf (P2.b1 tB (d2 eG (dA cj (ak &2 aB)) #0))) (zH a fQ lF) 100) (aY (lB (gf (P2.b1 tB (d2 eG (dA cj (ak &3 aB)) #1))) (zK a fQ lF) 100) (fD (zR (d2 aO &3 #0))))) (re (cw w) (some (.d (tri .here))) none) (aH us cs p o))=.ok (.d (bc c)) S':=by
  intro us n m v0 h1 h2 J hn hv;o!⟨cs',qP,I1,k1,e1⟩:=ack (a:=a) (lF:=lF) F.co (w:=cw w) (p:=p) (o:=o) (n:=n) o? 100 m us cs (some (.d (tri .here))) none h1 (by h!:=J.sum;om) J;o!⟨c,s6,cO,cz,e2⟩:=acn (a:=a) (fQ:=fQ) F.jo (w:=w) (p:=p) (o:=o) (n:=n) o? 100 cs' (some (.d (tri .here))) qP o? (by h!:=I1.sum;om) I1;r!\(c,aH [] [c] p o,\(cO.1,by rw[cO.2];~hv),cz,?_);rw[gR e1,gR e2];u! fD zR;o!⟨u,v,e⟩:=Ib (ts:=[].map tri) (cs:=[c].map bc) (p:=p) (o:=o) (w:=cw w) (s4:=some (.d (tri .here))) (s5:=s6);rw[e];h! ix:(d2 aO &3 #0) [.no,.sh (.str (cw w)),.sh (.lst ([].map tri)),.sh (.lst ([c].map bc)),u,v]=.ok (bc c):=rfl;rw[ix];dsimp only;rw[if_pos (arA c)];rfl
 by_cases z:ts.length+cs.length=0
 ·h! e1:ts=[]:=List.eq_nil_of_length_eq_zero o?
  h! e2:cs=[]:=List.eq_nil_of_length_eq_zero o?;subst e1 e2;rw[gR (if2 _ (by simp))];o!⟨c,S',cO,cz,e⟩:=fin [.here,.here] 4 1 0 rfl (by simp) \(by intro t ht;simp at ht;subst ht;trivial,nofun,rfl,rfl) o? o?;~\(c,S',cO,o?,e)
 ·rw[if_neg z,gR (if2 ts o?)]
  by_cases y:ts.length%2=1
  ·rw[if_pos y]
   o!⟨c,S',cO,cz,e⟩:=fin (ts++[.here]) (wt ts+wc cs+ts.length+cs.length+2) ((ts.length+1)/2) (vt ts+vc cs) g! g! \(λt ht=>by
      S![List.mem_append,List.mem_singleton]at ht;rcases ht with ht|rfl;· ~I.tO t ht
      · trivial,I.cO,by rw[qY,qZ];S![List.length_append,List.length_singleton,Tm.sz];om,by rw[CJ,CN];rfl) (by u! dY at hB r0;split at hB<;>om) (by h! q:=I.ov;om)
   r!\(c,S',cO,?_,e);u! dY at hB;split at hB<;>om
  ·rw[if_neg y]
   o!⟨c,S',cO,cz,e⟩:=fin ts (wt ts+wc cs+ts.length+cs.length) (ts.length/2) (vt ts+vc cs) o? o? \(I.tO,I.cO,rfl,rfl) (by u! dY at hB r0;split at hB<;>om) (by h! q:=I.ov;om);r!\(c,S',cO,?_,e);u! dY at hB;split at hB<;>om
T! turns{Fr:R!}{Zs Ze:Z!}(hr:∀t c:Int,Fr [.int t,.int c]=.ok (.int (dY t c)))
    (hs:∀(ts:List Tm) (cs:List Cn) (p o c h:Int),Inv ts cs p o->p+1+dY ts.length cs.length<=30->p+1+dY (ts.length+1) cs.length<=30->∃ts' cs' o',Inv ts' cs' (p+1) o'/\Zs [.loc 0,.d (.int c),.d (.int h)] (aH ts cs p o)=.ok (.d .non) (aH ts' cs' (p+1) o')){h:Int}{s1 s2:Option Z}:
    ∀(ns:List Int) (ts:List Tm) (cs:List Cn) (p o:Int) (s4 s5 s6:Option Z),Inv ts cs p o->∃ts' cs' p' o' t4 t5 t6,Inv ts' cs' p' o'/\sH (hV 4) (tY a Fr Zs Ze) (ns.map D.int) [some (.d (.int h)),s1,s2,some (.loc 0),s4,s5,s6] (aH ts cs p o)=.nx [some (.d (.int h)),s1,s2,some (.loc 0),t4,t5,t6] (aH ts' cs' p' o')
 |[],ts,cs,p,o,s4,s5,s6,I=>\(ts,cs,p,o,s4,s5,s6,I,rfl)
 |n::ns,ts,cs,p,o,s4,s5,s6,I=>by
  h! lc:∀(ρ:aJ),ρ[3]?=some (some (.loc 0))->wX (gq (zV 3) #"conds") ρ (aH ts cs p o)=.ok (.d (.int cs.length)) (aH ts cs p o):=λρ e=>by
   u! wX;rw[Rj e];show RX.ok (Z.d (.int (((cs.map bc).map Z.d).length:Nat))) _=_;rw[List.length_map,List.length_map]
  h! lt:∀(ρ:aJ),ρ[3]?=some (some (.loc 0))->wX (gq (zV 3) #"terms") ρ (aH ts cs p o)=.ok (.d (.int ts.length)) (aH ts cs p o):=λρ e=>by
   u! wX;rw[Rk e];show RX.ok (Z.d (.int (((ts.map tri).map Z.d).length:Nat))) _=_;rw[List.length_map,List.length_map]
  h! mx:∀x y:Int,n6 [.int x,.int y]=.ok (.int (max x y)):=λx y=>by
   show R.ok (D.int (if y>x then y else x))=_
   congr 2
   split<;>om
  h! h1:∀z:Int,(tY a Fr Zs Ze) [some (.d (.int h)),s1,s2,some (.loc 0),some (.d (.int n)),s5,s6] (aH ts cs p o)=aY (dH (il tB (z2 eG (z2 aP (z2 aP (gq (zV 3) #"parts") (zD #1)) (zD &6)) (zD #30))) aU.bk f9) (fO (zZ Zs (aN (zV 3) (aN (zD &4) (aN (zD &0) aW))))) [some (.d (.int h)),s1,s2,some (.loc 0),some (.d (.int n)),some (.d (.int cs.length)),some (.d (.int (max (dY ts.length cs.length) (dY (ts.length+1) cs.length))))] (aH ts cs p o):=λz=>by
   u! tY;rw[gR (oH (lc _ rfl) (by simp))];~gR (oH (tG (ds:=[.int (dY ts.length cs.length),.int (dY (ts.length+1) cs.length)]) (gh (tG (ds:=[.int ts.length,.int cs.length]) (gh (lt _ rfl) (gh (gJ rfl) pA)) (hr _ _)) (gh (tG (ds:=[.int (ts.length+1),.int cs.length]) (gh (yX (lt _ rfl) (gJ rfl) rfl) (gh (gJ rfl) pA)) (hr _ _)) pA)) (mx _ _)) (by simp))
  h! ik:(il tB (z2 eG (z2 aP (z2 aP (gq (zV 3) #"parts") (zD #1)) (zD &6)) (zD #30))) [some (.d (.int h)),s1,s2,some (.loc 0),some (.d (.int n)),some (.d (.int cs.length)),some (.d (.int (max (dY ts.length cs.length) (dY (ts.length+1) cs.length))))] (aH ts cs p o)=.ok (decide (p+1+max (dY ts.length cs.length) (dY (ts.length+1) cs.length)>30)) (aH ts cs p o):=agP (yX (yX (yX (abr rfl) (gJ rfl) rfl) (gJ rfl) rfl) (gJ rfl) rfl) rfl;by_cases z:p+1+max (dY ts.length cs.length) (dY (ts.length+1) cs.length)>30
  ·rw[decide_eq_true z]at ik
   r!\(ts,cs,p,o,some (.d (.int n)),some (.d (.int cs.length)),some (.d (.int (max (dY ts.length cs.length) (dY (ts.length+1) cs.length)))),I,?_);show mJ ((tY a Fr Zs Ze) [some (.d (.int h)),s1,s2,some (.loc 0),some (.d (.int n)),s5,s6] (aH ts cs p o)) _=_;rw[h1 0];u! aY;rw[tE ik];rfl
  ·rw[decide_eq_false z]at ik
   o!⟨ts1,cs1,o1,I1,e1⟩:=hs ts cs p o n h I o? o?;o!⟨ts',cs',p',o',t4,t5,t6,I',e'⟩:=turns hr hs ns ts1 cs1 (p+1) o1 (some (.d (.int n))) (some (.d (.int cs.length))) (some (.d (.int (max (dY ts.length cs.length) (dY (ts.length+1) cs.length))))) I1;r!\(ts',cs',p',o',t4,t5,t6,I',?_);show mJ ((tY a Fr Zs Ze) [some (.d (.int h)),s1,s2,some (.loc 0),some (.d (.int n)),s5,s6] (aH ts cs p o)) (sH (hV 4) (tY a Fr Zs Ze) (ns.map D.int))=_;rw[h1 0];u! aY;rw[jE ik];show mJ (fO _ _ (aH ts cs p o)) _=_;h! call:(zZ Zs (aN (zV 3) (aN (zD &4) (aN (zD &0) aW)))) [some (.d (.int h)),s1,s2,some (.loc 0),some (.d (.int n)),some (.d (.int cs.length)),some (.d (.int (max (dY ts.length cs.length) (dY (ts.length+1) cs.length))))] (aH ts cs p o)=.ok (.d .non) (aH ts1 cs1 (p+1) o1):=by
    h! ar:(aN (zV 3) (aN (zD &4) (aN (zD &0) aW))) [some (.d (.int h)),s1,s2,some (.loc 0),some (.d (.int n)),some (.d (.int cs.length)),some (.d (.int (max (dY ts.length cs.length) (dY (ts.length+1) cs.length))))] (aH ts cs p o)=.ok [.loc 0,.d (.int n),.d (.int h)] (aH ts cs p o):=gh rfl (gh (gJ rfl) (gh (gJ rfl) pA));u! zZ;rw[ar];~e1
   u! fO;rw[call];~e'
T! ak6{Fr:R!}{Zs Ze:Z!}(hr:∀t c:Int,Fr [.int t,.int c]=.ok (.int (dY t c)))
    (hs:∀(ts:List Tm) (cs:List Cn) (p o c h:Int),Inv ts cs p o->p+1+dY ts.length cs.length<=30->p+1+dY (ts.length+1) cs.length<=30->∃ts' cs' o',Inv ts' cs' (p+1) o'/\Zs [.loc 0,.d (.int c),.d (.int h)] (aH ts cs p o)=.ok (.d .non) (aH ts' cs' (p+1) o'))
    (he:∀(ts:List Tm) (cs:List Cn) (p o:Int) (w:Bool),Inv ts cs p o->∃c S',(c.Ok/\gQ c<=3)/\c.sz<=30/\Ze [.loc 0,.d (.str (cw w))] (aH ts cs p o)=.ok (.d (bc c)) S')(h:Int)(ns:List Int)(w:Bool)(b:Nat):
    ∃c:Cn,(c.Ok/\gQ c<=3)/\c.sz<=30/\clo (bw (Kl a Fr Zs Ze b (bG 7 [.d (.int h),.d (.lst (ns.map .int)),.d (.str (cw w))]) []))=.ok (bc c):=by
 h! I0:Inv [] [] 0 0:=\(nofun,nofun,rfl,d?,rfl,d?);o!⟨ts',cs',p',o',t4,t5,t6,I',e'⟩:=turns (a:=a) (Ze:=Ze) hr hs (h:=h) (s1:=some (.d (.lst (ns.map .int)))) (s2:=some (.d (.str (cw w)))) ns [] [] 0 0 none none none I0;o!⟨c,S',cO,cz,e2⟩:=he ts' cs' p' o' w I';r!\(c,cO,cz,?_);u! Kl;h! ds:Ys [.inr "terms",.inr "conds",.inr "parts",.inr "over"] (aN (u9 (λρ=>(aB ρ).bind jM)) (aN (u9 (λρ=>(aB ρ).bind jM)) (aN (zD #0) (aN (zD #0) aW)))) (bG 7 [.d (.int h),.d (.lst (ns.map .int)),.d (.str (cw w))]) []=.ok (.loc 0) (aH [] [] 0 0):=rfl;rw[gR (oH ds (by simp[bG]))];show clo (bw (aY (CT (λρ=>(&1 ρ).bind jH) (hV 4) (tY a Fr Zs Ze)) _ [some (.d (.int h)),some (.d (.lst (ns.map .int))),some (.d (.str (cw w))),some (.loc 0),none,none,none] (aH [] [] 0 0)))=_;h! fo:CT (λρ=>(&1 ρ).bind jH) (hV 4) (tY a Fr Zs Ze) [some (.d (.int h)),some (.d (.lst (ns.map .int))),some (.d (.str (cw w))),some (.loc 0),none,none,none] (aH [] [] 0 0)=.nx [some (.d (.int h)),some (.d (.lst (ns.map .int))),some (.d (.str (cw w))),some (.loc 0),t4,t5,t6] (aH ts' cs' p' o'):=e';rw[gR fo];h! ar:(aN (zV 3) (aN (zD &2) aW)) [some (.d (.int h)),some (.d (.lst (ns.map .int))),some (.d (.str (cw w))),some (.loc 0),t4,t5,t6] (aH ts' cs' p' o')=.ok [.loc 0,.d (.str (cw w))] (aH ts' cs' p' o'):=gh rfl (gh (gJ rfl) pA);u! fD zZ;rw[ar];show clo (bw (toZ (Ze [.loc 0,.d (.str (cw w))] (aH ts' cs' p' o')) aU.rt))=_;rw[e2];rfl
end
end WC
namespace mQ
open PySem L2 P2 WP WR WC WS TM T2 PySem.NumText
variable{a:Ad}
T! lR{A B:Ev->RT}{ρ cP:Ev}{r:R D}(h1:A ρ=.nx cP)(h2:aL (B cP)=r):aL (aZ A B ρ)=r:=by
 show aL (yM (A ρ) B)=r;rw[h1];~h2
T! VH{j:Nat}(h2:j<1000000):mC [.int j]=.ok ((List.range j).map λ(k:Nat)=>D.int k):=by
 h! e:wJ 0 j=(List.range j).map λ(k:Nat)=>D.int k:=by
  u! wJ;r! List.map_congr_left λk _=>?_;show D.int (0+(k:Int))=D.int (k:Int);rw[Int.zero_add]
 rw[<-e];u! mC;dsimp only;rw[if_pos o?,Int.toNat_natCast]
D! Ws:List Nat:=[40,41,91,93,43,45,42,60,61]
D! yN(c:Nat):Bool:=decide (c∈Ws)
T! aqb(c:Nat):Txt.contains (Str.ofString "()[]+-*<=") \(#[c])=yN c:=by
 rw[Ax];h! e:az (Str.ofString "()[]+-*<=")=Ws:=by decide
 rw[e];rfl
T! afm{c:Nat}(h:yN c=true):dq c=false/\c≠32:=by
 h! h':=of_decide_eq_true h;u! Ws at h';S![List.mem_cons,List.not_mem_nil,or_false]at h';rcases h' with rfl|rfl|rfl|rfl|rfl|rfl|rfl|rfl|rfl<;>decide
T! alN:∀n:Nat,n<4->yw (Str.ofString " ") (n:Int)=true/\Txt.mul (Str.ofString " ") (n:Int)=aq (List.replicate n 32):=by decide+kernel
T! S9{n:Int}(h0:0<=n)(h4:n<4):lr (.str " ") (.int n)=.ok (.str (aq (List.replicate n.toNat 32))):=by
 o!⟨m,rfl⟩:=Int.eq_ofNat_of_zero_le h0;o!⟨h1,h2⟩:=alN m o?;rw[Vn h1,h2];rfl
D! piece(cell:Int)(k c:Nat):List Nat:=
 if yN c=true then List.replicate (cell/(1+(k:Int)%7)%3).toNat 32++c::List.replicate (cell/(1+(k:Int)%5)%2).toNat 32
 else if c=32 then List.replicate (1+cell/(1+(k:Int)%3)%2).toNat 32 else[c]
T! aof(cell:Int)(k c:Nat):piece cell k c=[c]\/(dq c=false/\c≠32/\∃i j,piece cell k c=List.replicate i 32++c::List.replicate j 32)\/(c=32/\∃n,piece cell k c=List.replicate (n+1) 32):=by
 u! piece;by_cases h:yN c=true
 ·rw[if_pos h]
  ~.inr (.inl \((afm h).1,(afm h).2,_,_,rfl))
 ·rw[if_neg h]
  by_cases e:c=32
  ·rw[if_pos e]
   r! .inr (.inr \(e,(cell/(1+(k:Int)%3)%2).toNat,?_))
   congr 1
   h!:0<=cell/(1+(k:Int)%3)%2:=by om
   om
  ·rw[if_neg e];~.inl rfl
T! adg(cell:Int)(k c:Nat):(piece cell k c).length<=4:=by
 u! piece;split;·S![List.length_append,List.length_replicate,List.length_cons];om
 ·split
  ·rw[List.length_replicate];om
  ·simp
T! aoe(cell:Int)(k c d:Nat)(h:d∈piece cell k c):d=c\/d=32:=by
 u! piece at h;split at h
 ·rcases List.mem_append.mp h with h|h
  ·~.inr (List.eq_of_mem_replicate h)
  ·rcases List.mem_cons.mp h with h|h
   ·~.inl h
   ·~.inr (List.eq_of_mem_replicate h)
 ·split at h
  ·~.inr (List.eq_of_mem_replicate h)
  ·~.inl (List.mem_singleton.mp h)
T! vM{cs:List Nat}{k c:Nat}(h:cs[k]?=some c):L2.bN cs (k:Int)=some c:=by
 h! hk:k<cs.length:=(List.getElem?_eq_some_iff.mp h).1;u! L2.bN uz;rw[if_pos o?,if_pos o?,Int.toNat_natCast];~h
T! ixT{cs:List Nat}{k c:Nat}(h:cs[k]?=some c)(hl:cs.length<=50000):aO (.str (aq cs)) (.int k)=.ok (.str (aq [c])):=by
 h! hk:k<cs.length:=(List.getElem?_eq_some_iff.mp h).1;show(if(aq cs).length<=sizeLine then(match L2.bN (aq cs).cps.toList (k:Int)with|some c=>R.ok (D.str \(#[c]))|none=>.bad)else .bad)=_;rw[if_pos (by rw[qK];~size_of o?)];h! e:L2.bN (aq cs).cps.toList (k:Int)=some c:=by
  show L2.bN cs (k:Int)=some c;~vM h
 rw[e];rfl
T! inT(c:Nat):cT (.str (aq [c])) (.str "()[]+-*<=")=.ok (.bl (yN c)):=by
 show R.ok (D.bl (Txt.contains (Str.ofString "()[]+-*<=") \(#[c])))=_;rw[aqb]
T! ai9(c:Nat):cX (.str (aq [c])) (.str " ")=.ok (.bl (decide (c=32))):=by
 show R.ok (D.bl (decide (aq [c]=Str.ofString " ")))=_
 congr 2
 rw[Bool.eq_iff_iff,decide_eq_true_eq,decide_eq_true_eq];constructor
 ·intro h
  h!:=congrArg az h;rw[lZ]at this;h! e:az (Str.ofString " ")=[32]:=by decide
  rw[e]at this;c! this;rfl
 ·rintro rfl;decide
T! ahQ(cs:List Nat)(cell:Int)(z:List Nat)(s3:Sl){k c:Nat}(h:cs[k]?=some c)(hl:cs.length<=5000)(hz:z.length<=40000):
    xG a [.sh (.str (aq cs)),.sh (.int cell),.sh (.str (aq z)),.sh (.int k)]=.nx [.sh (.str (aq cs)),.sh (.int cell),.sh (.str (aq (z++piece cell k c))),.sh (.int k)]:=by
 h! ix:=ixT h o?;h! i1:=inT c;h! e1:=ai9 c;h! f7:fW (.int cell) (.int (1+(k:Int)%7))=.ok (.int (cell/(1+(k:Int)%7))):=Hl o? o?;h! f5:fW (.int cell) (.int (1+(k:Int)%5))=.ok (.int (cell/(1+(k:Int)%5))):=Hl o? o?;h! f3:fW (.int cell) (.int (1+(k:Int)%3))=.ok (.int (cell/(1+(k:Int)%3))):=Hl o? o?;h! m7:=S9 (n:=cell/(1+(k:Int)%7)%3) o? o?;h! m5:=S9 (n:=cell/(1+(k:Int)%5)%2) o? o?;h! m3:=S9 (n:=1+cell/(1+(k:Int)%3)%2) o? o?;u! piece;by_cases hs:yN c=true
 ·rw[if_pos hs]
  rw[hs]at i1;h! n7:(cell/(1+(k:Int)%7)%3).toNat<=3:=by om
  h! n5:(cell/(1+(k:Int)%5)%2).toNat<=3:=by om
  generalize(cell/(1+(k:Int)%7)%3).toNat=r7 at*;generalize(cell/(1+(k:Int)%5)%2).toNat=r5 at*;h! a1:=gj (x:=z) (y:=List.replicate r7 32) o? (by rw[List.length_replicate];om);h! a2:=gj (x:=z++List.replicate r7 32) (y:=[c]) g! (by simp);h! a3:=gj (x:=z++List.replicate r7 32++[c]) (y:=List.replicate r5 32) g! (by rw[List.length_replicate];om);h! fin:z++List.replicate r7 32++[c]++List.replicate r5 32=z++(List.replicate r7 32++c::List.replicate r5 32):=by simp
  rw[fin]at a3;generalize D.str (aq (z++(List.replicate r7 32++c::List.replicate r5 32)))=Z3 at*;generalize D.str (aq (z++List.replicate r7 32++[c]))=Z2 at*;generalize D.str (aq (z++List.replicate r7 32))=Z1 at*;generalize D.str (aq (List.replicate r7 32))=B7 at*;generalize D.str (aq (List.replicate r5 32))=B5 at*;generalize D.str (aq z)=Z at*;generalize D.str (aq [c])=C at*;generalize D.str (aq cs)=T at*;u! xG;iterate 8 (walk_at "den";try S![ix,i1,f7,f5,m7,m5,a1,a2,a3])
 ·rw[if_neg hs]
  h! hs':yN c=false:=by simpa using hs
  rw[hs']at i1;by_cases qC:c=32
  ·rw[if_pos qC]
   rw[decide_eq_true qC]at e1;h! n3:(1+cell/(1+(k:Int)%3)%2).toNat<=3:=by om
   generalize(1+cell/(1+(k:Int)%3)%2).toNat=r3 at*;h! a1:=gj (x:=z) (y:=List.replicate r3 32) o? (by rw[List.length_replicate];om);generalize D.str (aq (z++List.replicate r3 32))=Z1 at*;generalize D.str (aq (List.replicate r3 32))=B3 at*;generalize D.str (aq z)=Z at*;generalize D.str (aq [c])=C at*;generalize D.str (aq cs)=T at*;u! xG;iterate 8 (walk_at "den";try S![ix,i1,e1,f3,m3,a1])
  ·rw[if_neg qC]
   rw[decide_eq_false qC]at e1;h! a1:=gj (x:=z) (y:=[c]) o? (by simp);generalize D.str (aq (z++[c]))=Z1 at*;generalize D.str (aq z)=Z at*;generalize D.str (aq [c])=C at*;generalize D.str (aq cs)=T at*;u! xG;iterate 8 (walk_at "den";try S![ix,i1,e1,a1])
T! ab7(cs:List Nat)(cell:Int)(hl:cs.length<=5000):∀(ks:List Nat) (z:List Nat) (s3:Sl),(∀k∈ks,k<cs.length)->z.length+4*ks.length<=40000->
    ∃yI,oW (gV 3) (xG a) (ks.map λ(k:Nat)=>D.int k) [.sh (.str (aq cs)),.sh (.int cell),.sh (.str (aq z)),s3]=.nx [.sh (.str (aq cs)),.sh (.int cell),.sh (.str (aq (z++ks.flatMap λk=>piece cell k (cs.getD k 0)))),yI]
 |[],z,s3,_,_=>\(s3,by rw[List.flatMap_nil,List.append_nil];rfl)
 |k::ks,z,s3,hk,hz=>by
  h! xZ:=hk k (.head _);h! hc:cs[k]?=some (cs.getD k 0):=by rw[List.getD_eq_getElem?_getD,List.getElem?_eq_getElem xZ];rfl
  rw[List.length_cons]at hz;h! hp:=adg cell k (cs.getD k 0);h! e:=ahQ (a:=a) cs cell z s3 hc hl o?;o!⟨yI,g⟩:=ab7 cs cell hl ks (z++piece cell k (cs.getD k 0)) (.sh (.int k)) (λj hj=>hk j (.tail _ hj)) (by rw[List.length_append];om);r!\(yI,?_);rw[List.map_cons,Vf];walk_at "den"
  rw[e,Hq,g,List.flatMap_cons,List.append_assoc]
D! mF(cs:List Nat)(cell:Int):List Nat:=(List.range cs.length).flatMap λk=>piece cell k (cs.getD k 0)
T! aqB(cs:List Nat)(cell:Int)(x:List Nat):bQ (x++mF cs cell)=bQ (x++cs):=by
 h!:=afL ((List.range cs.length).map λk=>(cs.getD k 0,piece cell k (cs.getD k 0))) (λp hp=>by
  o!⟨k,_,rfl⟩:=List.mem_map.mp hp;~aof cell k _) x
 rw[List.flatMap_map,List.map_map]at this;h! e:(List.range cs.length).map ((λ(p:Nat×List Nat)=>p.1)∘λk=>(cs.getD k 0,piece cell k (cs.getD k 0)))=cs:=ajq cs 0;rw[e]at this;~this
T! aqz(cs:List Nat)(cell:Int):(mF cs cell).length<=4*cs.length:=by
 u! mF;h!:∀ks:List Nat,(ks.flatMap λk=>piece cell k (cs.getD k 0)).length<=4*ks.length:=λks=>by
  induction ks with
  |nil=>simp
  |cons k r ih=>rw[List.flatMap_cons,List.length_append,List.length_cons];h!:=adg cell k (cs.getD k 0);om
 h! h:=this (List.range cs.length);rw[List.length_range]at h;~h
T! aqA(cs:List Nat)(cell:Int){d:Nat}(h:d∈mF cs cell):d∈cs\/d=32:=by
 u! mF at h;o!⟨k,hk,h⟩:=List.mem_flatMap.mp h;h! uv:=List.mem_range.mp hk;rcases aoe _ _ _ _ h with h|h
 ·left
  rw[h,List.getD_eq_getElem?_getD,List.getElem?_eq_getElem uv];~List.getElem_mem uv
 ·~.inr h
T! alr(cs:List Nat)(cell:Int)(hl:cs.length<=5000):aL (KD a (aM 4 [.str (aq cs),.int cell]))=.ok (.str (aq (mF cs cell))):=by
 o!⟨s3,g⟩:=ab7 (a:=a) cs cell hl (List.range cs.length) [] .no (λk hk=>List.mem_range.mp hk) (by rw[List.length_range];simp;om);h! e0:(Str.ofString "")=aq []:=by decide
 h! rg:mC [.int (cs.length:Int)]=.ok ((List.range cs.length).map λ(k:Nat)=>D.int k):=VH o?;h! RK:cj [.str (aq cs)]=.ok (.int (cs.length:Int)):=by
  rw[Nf,qK,if_pos (size_of o?)]
 rw[List.nil_append,<-e0]at g;h! g':oW (gV 3) (xG a) ((List.range cs.length).map λ(k:Nat)=>D.int k) [.sh (.str (aq cs)),.sh (.int cell),.sh (.str (Str.ofString "")),.no]=.nx [.sh (.str (aq cs)),.sh (.int cell),.sh (.str (aq (mF cs cell))),s3]:=g;generalize D.str (aq (mF cs cell))=W at*;generalize D.str (aq cs)=T at*;u! KD;r! lR (cP:=[.sh T,.sh (.int cell),.sh (.str (Str.ofString "")),.no]) rfl ?_;r! lR (cP:=[.sh T,.sh (.int cell),.sh W,s3]) ?_ rfl;rw[Hn];h! fe:((ak (dA cj (ak &0 aB)) aB) [.sh T,.sh (.int cell),.sh (.str (Str.ofString "")),.no]).bind mC=.ok ((List.range cs.length).map λ(k:Nat)=>D.int k):=by
  h! e1:(dA cj (ak &0 aB)) [.sh T,.sh (.int cell),.sh (.str (Str.ofString "")),.no]=.ok (.int (cs.length:Int)):=RK;rw[fL,e1,aV,ju,aV,aV];~rg
 rw[fe,uJ];~g'
end mQ
namespace mQ
open PySem L2 P2 WP WR WC WS TM T2 PySem.NumText
variable{a:Ad}
D! pairD(p:Nat×Nat):D:=.tup [.int (p.1:Int),.int (p.2:Int)]
T! inO(c:Nat):cT (.str (aq [c])) (.str "([")=.ok (.bl (dM c)):=by
 show R.ok (D.bl (Txt.contains (Str.ofString "([") \(#[c])))=_;rw[Ax];h! e:az (Str.ofString "([")=[40,91]:=by decide
 rw[e];u! dM
 congr 2
 rw[Bool.eq_iff_iff];simp
T! inC(c:Nat):cT (.str (aq [c])) (.str ")]")=.ok (.bl (isC c)):=by
 show R.ok (D.bl (Txt.contains (Str.ofString ")]") \(#[c])))=_;rw[Ax];h! e:az (Str.ofString ")]")=[41,93]:=by decide
 rw[e];u! isC
 congr 2
 rw[Bool.eq_iff_iff];simp
structure PI(cs:List Nat)(k:Nat)(ws:List Nat)(ps:List (Nat×Nat)):Prop where
 wl:ws.length+iw (cs.take k)=iW (cs.take k)
 wo:∀w∈ws,w<k/\∃c,cs[w]?=some c/\dM c=true
 po:∀p∈ps,p.1<p.2/\p.2<k/\(∃c,cs[p.1]?=some c/\dM c=true)/\∃c,cs[p.2]?=some c/\isC c=true
 pl:ps.length<=k
D! stP(ps:List (Nat×Nat))(ws:List Nat):aC:=[.li ((ps.map pairD).map .d),.li ((ws.map λ(w:Nat)=>D.int w).map .d)]
T! acP{c:Nat}(h:dM c=true):isC c=false:=by
 u! dM at h;simp at h;rcases h with rfl|rfl<;>decide
T! take_one{cs:List Nat}{k c:Nat}(h:cs[k]?=some c):cs.take (k+1)=cs.take k++[c]:=by
 rw[List.take_succ,h];rfl
T! ahP{cs:List Nat}(hl:cs.length<=5000)(dy:Dy cs){k c:Nat}(h:cs[k]?=some c){ws:List Nat}{ps:List (Nat×Nat)}(I:PI cs k ws ps):
    ∃Ik Hb,PI cs (k+1) Ik Hb/\zJ a [some (.d (.str (aq cs))),some (.loc 0),some (.loc 1),some (.d (.int k))] (stP ps ws)=.nx [some (.d (.str (aq cs))),some (.loc 0),some (.loc 1),some (.d (.int k))] (stP Hb Ik):=by
 h! hk:k<cs.length:=(List.getElem?_eq_some_iff.mp h).1;h! ix:=ixT h o?;h! i1:=inO c;h! i2:=inC c;h! lw:ws.length<=k:=by
  h! h1:=I.wl;h! h2:iW (cs.take k)<=k:=by
   u! iW;r! Nat.le_trans (List.length_filter_le ..) ?_;rw[List.length_take];om
  om
 h! sl:=sizeLine_eq;h! to1:=take_one h;h! o1:iW (cs.take (k+1))=iW (cs.take k)+iW [c]:=by rw[to1,G7]
 h! c1:iw (cs.take (k+1))=iw (cs.take k)+iw [c]:=by rw[to1,Ec]
 h! eO:∀S:aC,(zB (b1 tB (d2 cT (d2 aO &0 &3) #"(["))) [some (.d (.str (aq cs))),some (.loc 0),some (.loc 1),some (.d (.int k))] S=.ok (dM c) S:=λS=>by
  h!:(b1 tB (d2 cT (d2 aO &0 &3) #"([")) [.sh (.str (aq cs)),.no,.no,.sh (.int k)]=.ok (dM c):=by
   h! e1:(d2 aO &0 &3) [.sh (.str (aq cs)),.no,.no,.sh (.int k)]=.ok (.str (aq [c])):=ix;rw[qN,ie,e1,aV,iY,aV,i1];rfl
  show iC _ S=_;rw[show dB [some (.d (.str (aq cs))),some (.loc 0),some (.loc 1),some (.d (.int k))]=[.sh (.str (aq cs)),.no,.no,.sh (.int k)]from rfl,this];rfl
 h! eC:∀S:aC,(zB (b1 tB (d2 cT (d2 aO &0 &3) #")]"))) [some (.d (.str (aq cs))),some (.loc 0),some (.loc 1),some (.d (.int k))] S=.ok (isC c) S:=λS=>by
  h!:(b1 tB (d2 cT (d2 aO &0 &3) #")]")) [.sh (.str (aq cs)),.no,.no,.sh (.int k)]=.ok (isC c):=by
   h! e1:(d2 aO &0 &3) [.sh (.str (aq cs)),.no,.no,.sh (.int k)]=.ok (.str (aq [c])):=ix;rw[qN,ie,e1,aV,iY,aV,i2];rfl
  show iC _ S=_;rw[show dB [some (.d (.str (aq cs))),some (.loc 0),some (.loc 1),some (.d (.int k))]=[.sh (.str (aq cs)),.no,.no,.sh (.int k)]from rfl,this];rfl
 u! zJ;cases hO:dM c with
 |true=>
  h! hC:=acP hO;rw[hO]at eO;rw[hC]at eC;r!\(ws++[k],ps,\(?_,λw hw=>?_,λp hp=>?_,by h!:=I.pl;om),?_)
  ·h! z1:iW [c]=1:=by u! iW;rw[List.filter_cons,if_pos hO];rfl
   h! z2:iw [c]=0:=by u! iw;rw[List.filter_cons,if_neg (by rw[hC];decide)];rfl
   h!:=I.wl;rw[o1,c1,z1,z2,List.length_append,List.length_singleton];om
  ·rcases List.mem_append.mp hw with hw|hw
   ·o!⟨h1,h2⟩:=I.wo w hw;~\(o?,h2)
   ·rw[List.mem_singleton.mp hw];~\(o?,c,h,hO)
  ·o!⟨h1,h2,h3⟩:=I.po p hp;~\(h1,o?,h3)
  ·h! e1:dH (zB (b1 tB (d2 cT (d2 aO &0 &3) #"(["))) (jb 2 (zD &3)) f9 [some (.d (.str (aq cs))),some (.loc 0),some (.loc 1),some (.d (.int k))] (stP ps ws)=.nx [some (.d (.str (aq cs))),some (.loc 0),some (.loc 1),some (.d (.int k))] (stP ps (ws++[k])):=by
    rw[tE (eO _)];show(if((ws.map λ(w:Nat)=>D.int w).map Z.d).length<sizeLine then aU.nx _ _ else .bad)=_;rw[if_pos (by rw[List.length_map,List.length_map];om)];u! stP;rw[List.map_append,List.map_append];rfl
   rw[gR e1,jE (eC _)];rfl
 |false=>
  rw[hO]at eO;h! z1:iW [c]=0:=by u! iW;rw[List.filter_cons,if_neg (by rw[hO];decide)];rfl
  h! e0:dH (zB (b1 tB (d2 cT (d2 aO &0 &3) #"(["))) (jb 2 (zD &3)) f9 [some (.d (.str (aq cs))),some (.loc 0),some (.loc 1),some (.d (.int k))] (stP ps ws)=.nx [some (.d (.str (aq cs))),some (.loc 0),some (.loc 1),some (.d (.int k))] (stP ps ws):=by
   rw[jE (eO _)];rfl
  rw[gR e0];cases hC:isC c with
  |false=>
   rw[hC]at eC;h! z2:iw [c]=0:=by u! iw;rw[List.filter_cons,if_neg (by rw[hC];decide)];rfl
   r!\(ws,ps,\(?_,λw hw=>?_,λp hp=>?_,by h!:=I.pl;om),?_);·h!:=I.wl;rw[o1,c1,z1,z2];om
   ·o!⟨h1,h2⟩:=I.wo w hw;~\(o?,h2)
   ·o!⟨h1,h2,h3⟩:=I.po p hp;~\(h1,o?,h3)
   ·rw[jE (eC _)];rfl
  |true=>
   rw[hC]at eC;h! z2:iw [c]=1:=by u! iw;rw[List.filter_cons,if_pos hC];rfl
   h! hp:=dy.pre (k+1);h! hwl:=I.wl;rw[o1,c1,z1,z2]at hp;h! hne:ws≠[]:=λe=>by rw[e]at hwl;simp at hwl;om
   obtain⟨w0,w,rfl⟩:∃w0 w,ws=w0++[w]:=\(ws.dropLast,ws.getLast hne,(List.dropLast_concat_getLast hne).symm);o!⟨hwk,hwo⟩:=I.wo w (by simp);r!\(w0,ps++[(w,k)],\(?_,λx hx=>?_,λp hp=>?_,by rw[List.length_append,List.length_singleton];h!:=I.pl;om),?_);·rw[List.length_append,List.length_singleton]at hwl;rw[o1,c1,z1,z2];om
   ·o!⟨h1,h2⟩:=I.wo x (List.mem_append_left _ hx);~\(o?,h2)
   ·rcases List.mem_append.mp hp with hp|hp
    ·o!⟨h1,h2,h3⟩:=I.po p hp;~\(h1,o?,h3)
    ·rw[List.mem_singleton.mp hp];~\(hwk,Nat.lt_succ_self _,hwo,c,h,hC)
   ·rw[tE (eC _)]
    h! hz:(jw 2) [some (.d (.str (aq cs))),some (.loc 0),some (.loc 1),some (.d (.int k))] (stP ps (w0++[w]))=.ok (.d (.int w)) (stP ps w0):=by
     show(match(((w0++[w]).map λ(w:Nat)=>D.int w).map Z.d)[(((w0++[w]).map λ(w:Nat)=>D.int w).map Z.d).length - 1]? with
      |some z=>RX.ok z ((stP ps (w0++[w])).set 1 (.li (((w0++[w]).map λ(w:Nat)=>D.int w).map Z.d).dropLast))
      |none=>.bad)=_
     rw[List.map_append,List.map_append];h! e1:((w0.map λ(w:Nat)=>D.int w).map Z.d++([w].map λ(w:Nat)=>D.int w).map Z.d)[((w0.map λ(w:Nat)=>D.int w).map Z.d++([w].map λ(w:Nat)=>D.int w).map Z.d).length - 1]?=some (Z.d (.int w)):=by
      rw[List.length_append];show(_++[Z.d (.int w)])[_+1 - 1]?=_;rw[Nat.add_sub_cancel,List.getElem?_append_right n!,Nat.sub_self];rfl
     rw[e1];dsimp only;h! e2:((w0.map λ(w:Nat)=>D.int w).map Z.d++([w].map λ(w:Nat)=>D.int w).map Z.d).dropLast=(w0.map λ(w:Nat)=>D.int w).map Z.d:=List.dropLast_concat;rw[e2];rfl
    h! hk2:(zD &3) [some (.d (.str (aq cs))),some (.loc 0),some (.loc 1),some (.d (.int k))] (stP ps w0)=.ok (.d (.int k)) (stP ps w0):=rfl;h! hm:(zF bK (aN (jw 2) (aN (zD &3) aW))) [some (.d (.str (aq cs))),some (.loc 0),some (.loc 1),some (.d (.int k))] (stP ps (w0++[w]))=.ok (.d (pairD (w,k))) (stP ps w0):=by
     u! zF;rw[gh hz (gh hk2 pA)];rfl
    show(toZ ((zF bK (aN (jw 2) (aN (zD &3) aW))) [some (.d (.str (aq cs))),some (.loc 0),some (.loc 1),some (.d (.int k))] (stP ps (w0++[w]))) λ(z:Z) (S1:aC)=>(match S1[0]? with
     |some (Cell.li zs)=>if zs.length<sizeLine then aU.nx [some (.d (.str (aq cs))),some (.loc 0),some (.loc 1),some (.d (.int k))] (S1.set 0 (.li (zs++[z])))else .bad
     |_=>.bad))=_
    rw[hm];show(if((ps.map pairD).map Z.d).length<sizeLine then aU.nx _ ((stP ps w0).set 0 (.li ((ps.map pairD).map Z.d++[Z.d (pairD (w,k))])))else .bad)=_;rw[if_pos (by rw[List.length_map,List.length_map];h!:=I.pl;om)];u! stP;rw[List.map_append,List.map_append];rfl
T! ab6{cs:List Nat}(hl:cs.length<=5000)(dy:Dy cs):∀(j k:Nat) (ws:List Nat) (ps:List (Nat×Nat)) (s3:Option Z),k+j=cs.length->PI cs k ws ps->
    ∃Ik Hb yI,PI cs cs.length Ik Hb/\sH (hV 3) (zJ a) ((List.range' k j).map λ(k:Nat)=>D.int k) [some (.d (.str (aq cs))),some (.loc 0),some (.loc 1),s3] (stP ps ws)=.nx [some (.d (.str (aq cs))),some (.loc 0),some (.loc 1),yI] (stP Hb Ik)
 |0,k,ws,ps,s3,e,I=>\(ws,ps,s3,by
    rw[<-(show k=cs.length by om)];~I,rfl)
 |j+1,k,ws,ps,s3,e,I=>by
  h! hk:k<cs.length:=by om
  o!⟨w1,p1,I1,e1⟩:=ahP (a:=a) hl dy (List.getElem?_eq_getElem hk) I;o!⟨w2,p2,s2,I2,e2⟩:=ab6 hl dy j (k+1) w1 p1 (some (.d (.int k))) o? I1;r!\(w2,p2,s2,I2,?_);rw[List.range'_succ,List.map_cons];show afH (hV 3 (.int k) _) _=_;show mJ (zJ a [some (.d (.str (aq cs))),some (.loc 0),some (.loc 1),some (.d (.int k))] (stP ps ws)) _=_;rw[e1];~e2
T! aaK{c:Ev->R Bool}{kE:Ev}{T:D}(h0:∀d,gV 0 d kE=some [.sh d,.sh T]):∀ps:List (Nat×Nat),(∀p∈ps,∃b,c [.sh (pairD p),.sh T]=.ok b)->∃qs:List (Nat×Nat),(∀q∈qs,q∈ps)/\qs.length<=ps.length/\jA (gV 0) c &0 kE (ps.map pairD)=some (qs.map pairD)
 |[],_=>\([],λ_ h=>h,Nat.le_refl _,rfl)
 |p::r,h=>by
  o!⟨qs,g1,g3,g2⟩:=aaK h0 r λq hq=>h q (.tail _ hq);o!⟨b,hb⟩:=h p (.head _);cases b with
  |true=>
   r!\(p::qs,λq hq=>?_,by rw[List.length_cons,List.length_cons];om,?_)
   ·rcases List.mem_cons.mp hq with rfl|hq
    ·~.head _
    ·~.tail _ (g1 q hq)
   ·rw[List.map_cons]
    u! jA;rw[h0,Option.bind_some,hb,g2];rfl
  |false=>
   r!\(qs,λq hq=>.tail _ (g1 q hq),by rw[List.length_cons];om,?_);rw[List.map_cons];u! jA;rw[h0,Option.bind_some,hb,g2];rfl
T! Z9:∀ds:List D,jg (ds.map Z.d)=some ds
 |[]=>rfl
 |d::r=>by show(jg (r.map Z.d)).map (d:: ·)=_;rw[Z9 r];rfl
T! acI(ds:List D):(ds.map Z.d).any (qD 0)=false:=by
 rw[List.any_eq_false];intro z hz;o!⟨d,_,rfl⟩:=List.mem_map.mp hz;~Bool.false_ne_true
T! alf{cs:List Nat}(hl:cs.length<=5000)(dy:Dy cs):∃qs:List (Nat×Nat),(∀p∈qs,p.1<p.2/\p.2<cs.length/\(∃c,cs[p.1]?=some c/\dM c=true)/\∃c,cs[p.2]?=some c/\isC c=true)/\qs.length<=cs.length/\
    clo (bw (Kv a 0 (bG 4 [.d (.str (aq cs))]) []))=.ok (.lst (qs.map pairD)):=by
 h! I0:PI cs 0 [] []:=\(rfl,nofun,nofun,Nat.le_refl _);o!⟨ws,ps,s3,I,e⟩:=ab6 (a:=a) hl dy cs.length 0 [] [] none o? I0;h! rg:mC [.int (cs.length:Int)]=.ok ((List.range' 0 cs.length).map λ(k:Nat)=>D.int k):=by rw[<-List.range_eq_range'];~VH o?
 h! RK:cj [.str (aq cs)]=.ok (.int (cs.length:Int)):=by
  rw[Nf,qK,if_pos (size_of o?)]
 h! sl:=sizeLine_eq;h! cond:∀p∈ps,∃b,(b1 tB (d2 fY (iG ig &1 (λρ=>((dA n6 (ak #0 (ak (d2 mG (d2 aO &0 #0) #3) aB))) ρ).bind pI) (λρ=>((d2 aO &0 #0) ρ).bind pI)) #"abs")) [.sh (pairD p),.sh (.str (aq cs))]=.ok b:=λp hp=>by
  r!\(!decide (Txt.slice (aq cs) (some (if(p.1:Int) - 3>0 then(p.1:Int) - 3 else 0)) (some (p.1:Int))=Str.ofString "abs"),?_);h! e0:(d2 aO &0 #0) [.sh (pairD p),.sh (.str (aq cs))]=.ok (.int (p.1:Int)):=rfl;h! e1:(dA n6 (ak #0 (ak (d2 mG (d2 aO &0 #0) #3) aB))) [.sh (pairD p),.sh (.str (aq cs))]=.ok (.int (if(p.1:Int) - 3>0 then(p.1:Int) - 3 else 0)):=rfl;h! e2:(iG ig &1 (λρ=>((dA n6 (ak #0 (ak (d2 mG (d2 aO &0 #0) #3) aB))) ρ).bind pI) (λρ=>((d2 aO &0 #0) ρ).bind pI)) [.sh (pairD p),.sh (.str (aq cs))]=.ok (.str (Txt.slice (aq cs) (some (if(p.1:Int) - 3>0 then(p.1:Int) - 3 else 0)) (some (p.1:Int)))):=by
   rw[BL];show(&1 [.sh (pairD p),.sh (.str (aq cs))]).bind _=_;rw[qO,aV,e1,e0];show(if(aq cs).length<=sizeLine then R.ok (D.str (Txt.slice (aq cs) _ _))else .bad)=_;rw[if_pos (by rw[qK];om)]
  rw[qN,ie,e2,aV,iY,aV];rfl
 o!⟨qs,g1,g3,g2⟩:=aaK (c:=(b1 tB (d2 fY (iG ig &1 (λρ=>((dA n6 (ak #0 (ak (d2 mG (d2 aO &0 #0) #3) aB))) ρ).bind pI) (λρ=>((d2 aO &0 #0) ρ).bind pI)) #"abs"))) (kE:=[.no,.sh (.str (aq cs))]) (T:=.str (aq cs)) (λd=>rfl) ps cond;r!\(qs,λp hp=>I.po p (g1 p hp),Nat.le_trans g3 I.pl,?_);h! lps:(ps.map pairD).length<=sizeLine:=by rw[List.length_map];h!:=I.pl;om
 u! Kv;rw[show bG 4 [.d (.str (aq cs))]=[some (.d (.str (aq cs))),none,none,none]from rfl];h! s1:cU 1 (u9 (λρ=>(aB ρ).bind jM)) [some (.d (.str (aq cs))),none,none,none] []=.nx [some (.d (.str (aq cs))),some (.loc 0),none,none] [.li []]:=rfl;rw[gR s1];h! s2:cU 2 (u9 (λρ=>(aB ρ).bind jM)) [some (.d (.str (aq cs))),some (.loc 0),none,none] [.li []]=.nx [some (.d (.str (aq cs))),some (.loc 0),some (.loc 1),none] (stP [] []):=rfl;rw[gR s2];h! yI:CT (λρ=>((ak (dA cj (ak &0 aB)) aB) ρ).bind mC) (hV 3) (zJ a) [some (.d (.str (aq cs))),some (.loc 0),some (.loc 1),none] (stP [] [])=.nx [some (.d (.str (aq cs))),some (.loc 0),some (.loc 1),s3] (stP ps ws):=by
  h! fe:((ak (dA cj (ak &0 aB)) aB) [.sh (.str (aq cs)),.no,.no,.no]).bind mC=.ok ((List.range' 0 cs.length).map λ(k:Nat)=>D.int k):=by
   h! e1:(dA cj (ak &0 aB)) [.sh (.str (aq cs)),.no,.no,.no]=.ok (.int (cs.length:Int)):=RK;rw[fL,e1,aV,ju,aV,aV];~rg
  show toZ (iC (((ak (dA cj (ak &0 aB)) aB) [.sh (.str (aq cs)),.no,.no,.no]).bind mC) (stP [] [])) _=_;rw[fe];~e
 rw[gR yI];h! fz:J1 0 1 [some (.d (.str (aq cs))),some (.loc 0),some (.loc 1),s3] (stP ps ws)=some ([some (Z.d (.str (aq cs))),some (Z.loc 0),some (Z.loc 1),s3].map (HQ 0 (.lst (ps.map pairD))),(stP ps ws).set 0 Cell.no):=by
  show(match jg ((ps.map pairD).map Z.d)with
   |some ds=>if 0<=0/\((stP ps ws).any (JG 0))=false then some ([some (Z.d (.str (aq cs))),some (Z.loc 0),some (Z.loc 1),s3].map (HQ 0 (.lst ds)),(stP ps ws).set 0 Cell.no)else none
   |none=>none)=_
  rw[Z9];dsimp only;r! if_pos \(Nat.le_refl _,?_);show((((ps.map pairD).map Z.d).any (qD 0))||((((ws.map λ(w:Nat)=>D.int w).map Z.d).any (qD 0))||false))=false;rw[acI,acI];rfl
 u! Oh;rw[fz];dsimp only;obtain⟨s4,h4⟩:∃s4,[some (Z.d (.str (aq cs))),some (.loc 0),some (.loc 1),s3].map (HQ 0 (.lst (ps.map pairD)))=[some (Z.d (.str (aq cs))),some (.d (.lst (ps.map pairD))),some (.loc 1),s4]:=\(HQ 0 (.lst (ps.map pairD)) s3,rfl);rw[h4];obtain⟨s5,h5⟩:∃s5,dB [some (Z.d (.str (aq cs))),some (.d (.lst (ps.map pairD))),some (.loc 1),s4]=[.sh (.str (aq cs)),.sh (.lst (ps.map pairD)),.no,s5]:=\(adw s4,rfl);h! dc:kZ (λρ=>(&1 ρ).bind jH) 1 [0] (gV 0) (b1 tB (d2 fY (iG ig &1 (λρ=>((dA n6 (ak #0 (ak (d2 mG (d2 aO &0 #0) #3) aB))) ρ).bind pI) (λρ=>((d2 aO &0 #0) ρ).bind pI)) #"abs")) &0 [.sh (.str (aq cs)),.sh (.lst (ps.map pairD)),.no,s5]=.ok (qs.map pairD):=by
  rw[M4];show(jH (.lst (ps.map pairD))).bind _=_;rw[MP,aV,if_pos lps];show GZ (jA (gV 0) _ &0 [.no,.sh (.str (aq cs))] (ps.map pairD))=_;rw[g2];rfl
 h! fin:zD (jh (kZ (λρ=>(&1 ρ).bind jH) 1 [0] (gV 0) (b1 tB (d2 fY (iG ig &1 (λρ=>((dA n6 (ak #0 (ak (d2 mG (d2 aO &0 #0) #3) aB))) ρ).bind pI) (λρ=>((d2 aO &0 #0) ρ).bind pI)) #"abs")) &0)) [some (Z.d (.str (aq cs))),some (.d (.lst (ps.map pairD))),some (.loc 1),s4] ((stP ps ws).set 0 .no)=.ok (.d (.lst (qs.map pairD))) ((stP ps ws).set 0 .no):=by
  r! gJ ?_;rw[h5,Hf,dc];rfl
 u! fD;rw[fin];rfl
end mQ
namespace mQ
open PySem L2 P2 WP WR WC WS TM T2 PySem.NumText
variable{a:Ad}
D! jV:Nat->D->Bool
 |0,_=>false
 |n+1,.tup ds=>ds.length.ble 1000&&ds.all (jV n)
 |_+1,.str _=>true
 |_+1,.int _=>true
 |_+1,_=>false
D! gF:Nat->D->Bool
 |0,_=>true
 |n+1,.tup ds=>ds.length.ble 1000&&ds.all (gF n)
 |_+1,.str _=>true
 |_+1,.int _=>true
 |_+1,_=>false
T! aaa{α:Type}{xs:List α}{k:Nat}{c:α}(h:xs[k]?=some c):L2.bN xs (k:Int)=some c:=by
 h! hk:k<xs.length:=(List.getElem?_eq_some_iff.mp h).1;u! L2.bN uz;rw[if_pos o?,if_pos o?,Int.toNat_natCast];~h
T! ahz{Q:Ev->R D}{xs ys L:List D}{bs:List Bool}(hx:xs.length=ys.length)(e1:Q [.sh (.tup xs),.sh (.tup ys)]=.ok (.lst L))(bl:mR L=some bs)(R':Ev->RT):
    aL (aZ (c7 (b1 tT (dA (eX a.d9) (ak &1 (ak (dC (.ty "tuple")) aB)))) (aZ (c7 (kY (ji (b1 tT (dA (eX a.d9) (ak &0 (ak (dC (.ty "tuple")) aB))))) (b1 tB (d2 fY (dA cj (ak &0 aB)) (dA cj (ak &1 aB))))) (bU (dC (.bl false))) dj)
     (bU (dA tX (ak Q aB)))) dj) R' [.sh (.tup xs),.sh (.tup ys)])=.ok (.bl (bs.all id)):=by
 h! n1:(!decide ((xs.length:Int)=(ys.length:Int)))=false:=by rw[hx];simp
 iterate 6 (walk_at "den";try S![n1,e1,bl])
T! ahB{xs ys:List D}(hx:xs.length≠ys.length)(A B R':Ev->RT):
    aL (aZ (c7 (b1 tT (dA (eX a.d9) (ak &1 (ak (dC (.ty "tuple")) aB)))) (aZ (c7 (kY (ji (b1 tT (dA (eX a.d9) (ak &0 (ak (dC (.ty "tuple")) aB))))) (b1 tB (d2 fY (dA cj (ak &0 aB)) (dA cj (ak &1 aB))))) (bU (dC (.bl false))) dj)
     A) dj) R' [.sh (.tup xs),.sh (.tup ys)])=.ok (.bl false):=by
 h! n1:(!decide ((xs.length:Int)=(ys.length:Int)))=true:=by
  rw[decide_eq_false (λe=>hx o?)];rfl
 iterate 6 (walk_at "den";try S![n1])
T! ahD{F:R!}{xs ys:List D}(hl:ys.length<=1000)(hx:xs.length=ys.length)(h:∀(i:Nat) (h1:i<xs.length) (h2:i<ys.length),∃b,F [xs[i],ys[i]]=.ok (.bl b)/\(b=true↔xs[i]=ys[i])):
    ∃b,aL (gm a F (aM 2 [.tup xs,.tup ys]))=.ok (.bl b)/\(b=true↔xs=ys):=by
 h! hb:∃g:Nat->Bool,∀(i:Nat) (h1:i<xs.length) (h2:i<ys.length),F [xs[i],ys[i]]=.ok (.bl (g i))/\(g i=true↔xs[i]=ys[i]):=by
  r!\(λi=>if h1:i<xs.length then(h i h1 (hx▸h1)).choose else true,λi h1 h2=>?_);S![h1,dif_pos];~(h i h1 (hx▸h1)).choose_spec
 o!⟨g,hg⟩:=hb;h! rg:=VH (j:=ys.length) o?;h! sl:=sizeLine_eq;h! hc:jA (gV 0) (λ_=>.ok true) (dA F (ak (d2 aO &2 &0) (ak (d2 aO &1 &0) aB))) [.no,.sh (.tup ys),.sh (.tup xs)] ((List.range ys.length).map λ(k:Nat)=>D.int k)=some ((List.range ys.length).map λk=>D.bl (g k)):=by
  h!:=zP (a:=gV 0) (c:=λ_=>.ok true) (e:=dA F (ak (d2 aO &2 &0) (ak (d2 aO &1 &0) aB))) (kE:=[.no,.sh (.tup ys),.sh (.tup xs)]) (λd=>[.sh d,.sh (.tup ys),.sh (.tup xs)]) (λd=>match d with|.int k=>.bl (g k.toNat)|_=>.non) ((List.range ys.length).map λ(k:Nat)=>D.int k) λd hd=>by
   o!⟨i,hi,rfl⟩:=List.mem_map.mp hd;h! hi:=List.mem_range.mp hi;r!\(rfl,rfl,?_);h! e1:aO (.tup xs) (.int ((i:Nat):Int))=.ok (xs[i]'o?):=by rw[M8,aaa (List.getElem?_eq_getElem o?)]
   h! e2:aO (.tup ys) (.int ((i:Nat):Int))=.ok ys[i]:=by rw[M8,aaa (List.getElem?_eq_getElem hi)]
   rw[lu,fL,ie,uK,aV,ou,aV,e1,aV,fL,ie,qO,aV,ou,aV,e2,aV,ju,aV,aV,aV];rw[(hg i o? hi).1];dsimp only;rw[Int.toNat_natCast]
  rw[this,List.map_map]
  congr 1
 h! e1:jh (kZ (λρ=>((ak (dA cj (ak &1 aB)) aB) ρ).bind mC) 1 [1,0] (gV 0) (λ_=>.ok true) (dA F (ak (d2 aO &2 &0) (ak (d2 aO &1 &0) aB)))) [.sh (.tup xs),.sh (.tup ys)]=.ok (.lst ((List.range ys.length).map λk=>D.bl (g k))):=by
  h! fe:((ak (dA cj (ak &1 aB)) aB) [.sh (.tup xs),.sh (.tup ys)]).bind mC=.ok ((List.range ys.length).map λ(k:Nat)=>D.int k):=by
   rw[fL,lu,fL,qO,aV,ju,aV,aV,Vm,aV,aV,aV];~rg
  rw[Hf,M4,fe,aV,if_pos (by rw[List.length_map,List.length_range];om)];show(GZ (jA (gV 0) (λ_=>.ok true) _ [.no,.sh (.tup ys),.sh (.tup xs)] _)).bind _=_;rw[hc];rfl
 h! bl:mR ((List.range ys.length).map λk=>D.bl (g k))=some ((List.range ys.length).map g):=by
  h! go:∀ks:List Nat,mR (ks.map λk=>D.bl (g k))=some (ks.map g):=λks=>by
   induction ks with
   |nil=>rfl
   |cons k r ih=>show(mR (r.map λk=>D.bl (g k))).map (g k:: ·)=_;rw[ih];rfl
  ~go _
 r!\(((List.range ys.length).map g).all id,?_,?_);·~ahz (a:=a) hx e1 bl _
 ·rw[List.all_eq_true]
  constructor
  ·intro ha
   r! List.ext_getElem hx λi h1 h2=>?_;~(hg i h1 h2).2.mp (ha (g i) (List.mem_map.mpr \(i,List.mem_range.mpr h2,rfl)))
  ·rintro rfl b hb
   o!⟨i,hi,rfl⟩:=List.mem_map.mp hb;h! hi:=List.mem_range.mp hi;~(hg i hi hi).2.mpr rfl
T! Z6:∀(n:Nat) (x y:D),gF n x=true->jV n y=true->∃b,j7 (λF ds=>aL (gm a F (aM 2 ds))) n [x,y]=.ok (.bl b)/\(b=true↔x=y)
 |0,_,_,_,h=>by c! h
 |n+1,x,y,hx,hy=>by
  cases y with
  |tup ys=>
   cases x with
   |tup xs=>
    S![jV,gF,Bool.and_eq_true,List.all_eq_true]at hx hy;by_cases hl:xs.length=ys.length
    ·o!⟨b,e,h⟩:=ahD (a:=a) (F:=j7 (λF ds=>aL (gm a F (aM 2 ds))) n) (Nat.le_of_ble_eq_true hy.1) hl λi h1 h2=>Z6 n _ _ (hx.2 _ (List.getElem_mem h1)) (hy.2 _ (List.getElem_mem h2))
     ~\(b,e,h.trans \(λe=>by rw[e],λe=>by c! e;rfl))
    ·~\(false,ahB (a:=a) hl _ (λ_=>.bad) _,\(λe=>(by c! e),λe=>(by c! e;~absurd rfl hl)))
   |str z=>
    r!\(false,?_,\(λe=>(by c! e),λe=>(by c! e)));show aL (gm a (j7 (λF ds=>aL (gm a F (aM 2 ds))) n) [.sh (.str z),.sh (.tup ys)])=_;h! i0:eX a.d9 [.str z,.ty "tuple"]=.ok (.bl false):=rfl;u! gm;iterate 6 (walk_at "den";try S![i0])
   |int i=>
    r!\(false,?_,\(λe=>(by c! e),λe=>(by c! e)));show aL (gm a (j7 (λF ds=>aL (gm a F (aM 2 ds))) n) [.sh (.int i),.sh (.tup ys)])=_;h! i0:eX a.d9 [.int i,.ty "tuple"]=.ok (.bl false):=rfl;u! gm;iterate 6 (walk_at "den";try S![i0])
   |_=>c! hx
  |str z=>
   h! i0:eX a.d9 [.str z,.ty "tuple"]=.ok (.bl false):=rfl;cases x with
   |tup xs=>
    r!\(false,?_,\(λe=>(by c! e),λe=>(by c! e)));show aL (gm a (j7 (λF ds=>aL (gm a F (aM 2 ds))) n) [.sh (.tup xs),.sh (.str z)])=_;h! i1:eX a.d9 [.tup xs,.ty "str"]=.ok (.bl false):=rfl;u! gm;iterate 6 (walk_at "den";try S![i0,i1])
   |str w=>
    r!\(decide (w=z),?_,\(λe=>by rw[of_decide_eq_true e],λe=>by c! e;~decide_eq_true rfl));show aL (gm a (j7 (λF ds=>aL (gm a F (aM 2 ds))) n) [.sh (.str w),.sh (.str z)])=_;h! i1:eX a.d9 [.str w,.ty "str"]=.ok (.bl true):=rfl;u! gm;iterate 6 (walk_at "den";try S![i0,i1])
   |int i=>
    r!\(false,?_,\(λe=>(by c! e),λe=>(by c! e)));show aL (gm a (j7 (λF ds=>aL (gm a F (aM 2 ds))) n) [.sh (.int i),.sh (.str z)])=_;h! i1:eX a.d9 [.int i,.ty "str"]=.ok (.bl false):=rfl;u! gm;iterate 6 (walk_at "den";try S![i0,i1])
   |_=>c! hx
  |int j=>
   h! i0:eX a.d9 [.int j,.ty "tuple"]=.ok (.bl false):=rfl;h! i1:eX a.d9 [.int j,.ty "str"]=.ok (.bl false):=rfl;cases x with
   |tup xs=>
    r!\(false,?_,\(λe=>(by c! e),λe=>(by c! e)));show aL (gm a (j7 (λF ds=>aL (gm a F (aM 2 ds))) n) [.sh (.tup xs),.sh (.int j)])=_;h! i2:eX a.d9 [.tup xs,.ty "int"]=.ok (.bl false):=rfl;u! gm;iterate 6 (walk_at "den";try S![i0,i1,i2])
   |str w=>
    r!\(false,?_,\(λe=>(by c! e),λe=>(by c! e)));show aL (gm a (j7 (λF ds=>aL (gm a F (aM 2 ds))) n) [.sh (.str w),.sh (.int j)])=_;h! i2:eX a.d9 [.str w,.ty "int"]=.ok (.bl false):=rfl;u! gm;iterate 6 (walk_at "den";try S![i0,i1,i2])
   |int i=>
    r!\(decide (i=j),?_,\(λe=>by rw[of_decide_eq_true e],λe=>by c! e;~decide_eq_true rfl));show aL (gm a (j7 (λF ds=>aL (gm a F (aM 2 ds))) n) [.sh (.int i),.sh (.int j)])=_;h! i2:eX a.d9 [.int i,.ty "int"]=.ok (.bl true):=rfl;h! i3:eX a.d9 [.int i,.ty "bool"]=.ok (.bl false):=rfl;u! gm;iterate 6 (walk_at "den";try S![i0,i1,i2,i3])
   |_=>c! hx
  |_=>c! hy
T! wF:∀(n m:Nat) (d:D),n<=m->jV n d=true->jV m d=true
 |0,_,_,_,h=>by c! h
 |n+1,0,_,hl,_=>by om
 |n+1,m+1,d,hl,h=>by
  cases d with
  |tup ds=>
   S![jV,Bool.and_eq_true,List.all_eq_true]at h⊢;~\(h.1,λe he=>wF n m e o? (h.2 e he))
  |str z=>rfl
  |int i=>rfl
  |_=>c! h
T! By:∀t:Tm,jV (t.sz+2) t.d=true
 |.num p q=>rfl
 |.here=>rfl
 |.fZ w n=>rfl
 |.at m=>rfl
 |.bin s x y=>by
  h! h1:=wF _ (x.sz+y.sz+2) _ o? (By x);h! h2:=wF _ (x.sz+y.sz+2) _ o? (By y);show jV ((x.sz+y.sz+2)+1) (.tup [.str (sg s),x.d,y.d])=true;S![jV,List.all_cons,List.all_nil,h1,h2,Bool.and_true];rfl
 |.times p q x=>by
  h! h1:=By x;show jV ((x.sz+2)+1) (.tup [.str "times",WC.pr p q,x.d])=true;S![jV,List.all_cons,List.all_nil,h1,Bool.and_true];rfl
 |.abs x=>by
  h! h1:=By x;show jV ((x.sz+2)+1) (.tup [.str "abs",x.d])=true;S![jV,List.all_cons,List.all_nil,h1,Bool.and_true];rfl
T! My:∀c:Cn,jV (c.sz+2) c.d=true
 |.cmp s x y=>by
  h! h1:=wF _ (x.sz+y.sz+2) _ o? (By x);h! h2:=wF _ (x.sz+y.sz+2) _ o? (By y);show jV ((x.sz+y.sz+2)+1) (.tup [.str (cg s),x.d,y.d])=true;S![jV,List.all_cons,List.all_nil,h1,h2,Bool.and_true];rfl
 |.not c=>by
  h! h1:=My c;show jV ((c.sz+2)+1) (.tup [.str "not",c.d])=true;S![jV,List.all_cons,List.all_nil,h1,Bool.and_true];rfl
 |.two s x y=>by
  h! h1:=wF _ (x.sz+y.sz+2) _ o? (My x);h! h2:=wF _ (x.sz+y.sz+2) _ o? (My y);show jV ((x.sz+y.sz+2)+1) (.tup [.str (cw s),x.d,y.d])=true;S![jV,List.all_cons,List.all_nil,h1,h2,Bool.and_true];rfl
T! BK:∀(n:Nat) (t:Tm),gF n t.d=true
 |0,_=>rfl
 |n+1,t=>by
  cases t with
  |num p q=>
   show gF (n+1) (.tup [.str "num",WC.pr p q])=true;cases n with
   |zero=>rfl
   |succ n=>
    c! n<;>rfl
  |here=>
   show gF (n+1) (.tup [.str "here"])=true;c! n<;>rfl
  |fZ w k=>
   show gF (n+1) (.tup [.str (wd w),.int k])=true;c! n<;>rfl
  |«at» m=>
   show gF (n+1) (.tup [.str "at",.str (aq m)])=true;c! n<;>rfl
  |bin s x y=>
   h! h1:=BK n x;h! h2:=BK n y;h! h3:gF n (.str (sg s))=true:=by c! n<;>rfl
   show gF (n+1) (.tup [.str (sg s),x.d,y.d])=true;S![gF,List.all_cons,List.all_nil,h1,h2,h3,Bool.and_true];rfl
  |times p q x=>
   h! h1:=BK n x;h! h3:gF n (.str "times")=true:=by c! n<;>rfl
   h! h4:gF n (WC.pr p q)=true:=by
    cases n with
    |zero=>rfl
    |succ n=>c! n<;>rfl
   show gF (n+1) (.tup [.str "times",WC.pr p q,x.d])=true;S![gF,List.all_cons,List.all_nil,h1,h3,h4,Bool.and_true];rfl
  |abs x=>
   h! h1:=BK n x;h! h3:gF n (.str "abs")=true:=by c! n<;>rfl
   show gF (n+1) (.tup [.str "abs",x.d])=true;S![gF,List.all_cons,List.all_nil,h1,h3,Bool.and_true];rfl
T! MJ:∀(n:Nat) (c:Cn),gF n c.d=true
 |0,_=>rfl
 |n+1,c=>by
  cases c with
  |cmp s x y=>
   h! h1:=BK n x;h! h2:=BK n y;h! h3:gF n (.str (cg s))=true:=by c! n<;>rfl
   show gF (n+1) (.tup [.str (cg s),x.d,y.d])=true;S![gF,List.all_cons,List.all_nil,h1,h2,h3,Bool.and_true];rfl
  |not c=>
   h! h1:=MJ n c;h! h3:gF n (.str "not")=true:=by c! n<;>rfl
   show gF (n+1) (.tup [.str "not",c.d])=true;S![gF,List.all_cons,List.all_nil,h1,h3,Bool.and_true];rfl
  |two s x y=>
   h! h1:=MJ n x;h! h2:=MJ n y;h! h3:gF n (.str (cw s))=true:=by c! n<;>rfl
   show gF (n+1) (.tup [.str (cw s),x.d,y.d])=true;S![gF,List.all_cons,List.all_nil,h1,h2,h3,Bool.and_true];rfl
T! ahA(x y:Cn)(hy:y.sz<=30):∃b,j7 (λF ds=>aL (gm a F (aM 2 ds))) 60 [x.d,y.d]=.ok (.bl b)/\(b=true↔x.d=y.d):=
 Z6 60 _ _ (MJ 60 x) (wF _ 60 _ o? (My y))
end mQ
namespace WS
open PySem L2 P2 WP WR WC TM T2 PySem.NumText
D! GP(k b:Nat):Pr->Prop
 |.ok _ _ k' b'=>k<=k'/\k'<=30/\b'=b
 |.no=>True
 |.bad=>False
D! Nb(F:PF)(k b:Nat):Prop:=∀r,GP k b (F r k b)
section
variable{k b:Nat}
T! xT{x:Pr}{f:D->PF}(hx:GP k b x)(hf:∀d r k',k<=k'->k'<=30->GP k' b (f d r k' b)):GP k b (fU x f):=by
 cases x with
 |ok d r k' b'=>
  o!⟨h1,h2,rfl⟩:=hx;h!:=hf d r k' h1 h2;show GP k b' (f d r k' b');cases e:f d r k' b' with
  |ok d2 r2 k2 b2=>rw[e]at this;~\(Nat.le_trans h1 this.1,this.2)
  |no=>trivial
  |bad=>rw[e]at this;~this
 |no=>trivial
 |bad=>~hx
T! KJ{x:Pr}{g:D->D}(hx:GP k b x):GP k b (jR g x):=xT hx λd r k' h1 h2=>\(Nat.le_refl _,h2,rfl)
T! abA{x:Pr}{k0:Nat}(h:k0<=k)(hx:GP k b x):GP k0 b x:=by
 cases x with
 |ok d r k' b'=>~\(Nat.le_trans h hx.1,hx.2)
 |no=>trivial
 |bad=>~hx
T! ug{r:List Tk}{f:Tk->List Tk->Pr}(hf:∀t s,GP k b (f t s)):GP k b (tk r f):=by
 cases r with
 |nil=>trivial
 |cons t s=>~hf t s
T! lM{c:Bool}{x y:Pr}(hx:c=true->GP k b x)(hy:c=false->GP k b y):GP k b (bif c then x else y):=by
 cases c with
 |true=>~hx rfl
 |false=>~hy rfl
T! Rr{c:Tk}{r:List Tk}{f:List Tk->Pr}(hf:∀s,GP k b (f s)):GP k b (xp c r f):=ug λt s=>lM (λ_=>hf s) λ_=>trivial
T! Aq{f:Nat->Pr}(hf:k<=29->GP (k+1) b (f (k+1))):GP k b (bg k f):=lM (λh=>abA (Nat.le_succ k) (hf (Nat.le_of_ble_eq_true h))) λ_=>trivial
T! Rq{α:Type}{o:Option α}{f:α->Pr}(hf:∀v,GP k b (f v)):GP k b (opt o f):=by
 cases o with
 |none=>trivial
 |some v=>~hf v
T! Ar{d:D}{r:List Tk}(h:k<=30):GP k b (.ok d r k b):=\(Nat.le_refl _,h,rfl)
T! ajx{c:Tk}{d:D}{r:List Tk}(h:k<=30):GP k b (lv c d r k (b+1)):=ug λt s=>lM (λ_=>\(Nat.le_refl _,h,rfl)) λ_=>trivial
T! aby{c e:Tk}{r:List Tk}{F:PF}(hF:b<=15->Nb F k (b+1)):GP k b (en c r b λr b=>fU (F r k b) λd r k b=>lv e d r k b):=
 ug λt s=>lM (λ_=>lM (λhb=>by
  h!:=hF (Nat.le_of_ble_eq_true hb) s;show GP k b (fU (F s k (b+1)) λd r k b=>lv e d r k b);cases q:F s k (b+1)with
  |ok d r k' b'=>
   rw[q]at this;o!⟨h1,h2,rfl⟩:=this;~abA h1 (ajx h2)
  |no=>trivial
  |bad=>rw[q]at this;~this.elim) λ_=>trivial) λ_=>trivial
T! abz{F:PF}(hb:∀k',k<=k'->k'<=30->Nb F k' b):∀(m:Nat) (d:D) (r:List Tk) (k':Nat),k<=k'->k'<=30->31<=m+k'->GP k' b (o4 F m d r k' b)
 |0,d,r,k',h1,h2,h3=>by om
 |m+1,d,r,k',h1,h2,h3=>lM (λ_=>ug λt s=>Aq λGb=>xT (hb (k'+1) o? o? s) λe r2 k2 h4 h5=>abz hb m _ r2 k2 o? h5 o?) λ_=>Ar h2
T! Rp{w:Tk}{s:Str}{F:PF}(hb:∀k',k<=k'->k'<=30->Nb F k' b):∀(m:Nat) (d:D) (r:List Tk) (k':Nat),k<=k'->k'<=30->31<=m+k'->GP k' b (jt w s F m d r k' b)
 |0,d,r,k',h1,h2,h3=>by om
 |m+1,d,r,k',h1,h2,h3=>lM (λ_=>Rr λs=>Aq λGb=>xT (hb (k'+1) o? o? s) λe r2 k2 h4 h5=>Rp hb m _ r2 k2 o? h5 o?) λ_=>Ar h2
end
T! uC:∀(n k b:Nat),k<=30->b<=16->(4*(16 - b)+4<=n->Nb (f0 n).su k b)/\(4*(16 - b)+3<=n->Nb (f0 n).pr k b)/\(4*(16 - b)+2<=n->Nb (f0 n).sg k b)/\(4*(16 - b)+1<=n->Nb (f0 n).br k b)
 |0,k,b,hk,hb=>\(λh=>by om,λh=>by om,λh=>by om,λh=>by om)
 |n+1,k,b,hk,hb=>by
  r!\(λh r=>?_,λh r=>?_,λh r=>?_,λh r=>?_);·~xT ((uC n k b hk hb).2.1 o? r) λd r k' h1 h2=>abz (k:=k) (λk2 _ h4=>(uC n k2 b h4 hb).2.1 o?) 100 d r k' h1 h2 o?
  ·~lM (λ_=>ug λt s=>Rq λv=>Rr λs2=>Aq λGb=>KJ ((uC n (k+1) b o? hb).2.2.1 o? s2)) λ_=>(uC n k b hk hb).2.2.1 o? r
  ·r! lM (λ_=>(uC n k b hk hb).2.2.2 o? r) λ_=>Aq λGb=>ug λw s=>?_
   r! lM (λ_=>Ar o?) λ_=>lM (λ_=>ug λt s2=>Rq λv=>Ar o?) λ_=>lM (λ_=>ug λt s2=>lM (λ_=>Ar o?) λ_=>trivial) λ_=>lM (λ_=>KJ ((uC n (k+1) b o? hb).2.2.2 o? s)) λ_=>Rq λv=>Ar o?
  ·~aby λh15=>(uC n k (b+1) hk o?).1 o?
T! alP{k b:Nat}(hk:k<=30)(hb:b<=16):Nb (yD (f0 75).su) k b:=λr=>
 Aq λGb=>xT ((uC 75 (k+1) b o? hb).1 o? r) λd r2 k2 h1 h2=>ug λs r3=>lM (λ_=>KJ ((uC 75 k2 b h2 hb).1 o? r3)) λ_=>trivial
T! yq:∀(n k b:Nat),k<=30->b<=16->(3*(16 - b)+(30 - k)+3<=n->Nb (f1 n).or k b)/\(3*(16 - b)+(30 - k)+2<=n->Nb (f1 n).and k b)/\(3*(16 - b)+(30 - k)+1<=n->Nb (f1 n).not k b)
 |0,k,b,hk,hb=>\(λh=>by om,λh=>by om,λh=>by om)
 |n+1,k,b,hk,hb=>by
  r!\(λh r=>?_,λh r=>?_,λh r=>?_);·~xT ((yq n k b hk hb).2.1 o? r) λd r k' h1 h2=>Rp (k:=k) (λk2 _ h4=>(yq n k2 b h4 hb).2.1 o?) 100 d r k' h1 h2 o?
  ·~xT ((yq n k b hk hb).2.2 o? r) λd r k' h1 h2=>Rp (k:=k) (λk2 _ h4=>(yq n k2 b h4 hb).2.2 o?) 100 d r k' h1 h2 o?
  ·~lM (λ_=>Rr λs=>Aq λGb=>KJ ((yq n (k+1) b o? hb).2.2 o? s)) λ_=>lM (λ_=>aby λh15=>(yq n k (b+1) hk o?).1 o?) λ_=>alP hk hb r
T! anF(cs:List Nat):parse cs≠.bad:=λe=>by
 h! h:=(yq 85 0 0 o? o?).1 o? (bQ cs);u! parse pEnd at e;cases q:(f1 85).or (bQ cs) 0 0 with
 |ok d r k b=>rw[q]at e;c! r<;>c! e
 |no=>rw[q]at e;c! e
 |bad=>rw[q]at h;~h
end WS
namespace WS
open PySem L2 P2 WP WR WC TM T2 PySem.NumText
open Builtin.Str
T! ace(c:Nat):∀l:List Nat,(bF c l).length=(l.filter λx=>x==c).length+1
 |[]=>by simp[bF]
 |x::r=>by
  h!:=ace c r;by_cases e:x=c;·subst e;rw[qQ,List.length_cons,this,List.filter_cons,if_pos (by simp),List.length_cons]
  ·cases q:bF c r with
   |nil=>~absurd q (yP c r)
   |cons p ps=>
    rw[q]at this;rw[uP e q,List.filter_cons,if_neg (by simpa using e),<-this];rfl
T! aiy(x:Str)(c:Nat):Txt.count x \(#[c])=(((az x).filter λy=>y==c).length:Nat):=by
 h! h0:=ace c (az x);rw[<-W9,List.length_map]at h0;u! Txt.count
 congr 1
 by_cases he:(occurrences x \(#[c]) 0 x.length (x.length+1)).isEmpty=true
 ·h! hs:Txt.split x \(#[c])=[x]:=by
   u! Txt.split;split;·rfl
   ·first|rfl|rw[if_pos he]
  rw[hs]at h0;h!:(occurrences x \(#[c]) 0 x.length (x.length+1)).length=0:=by rw[List.isEmpty_iff.mp he];rfl
  rw[List.length_singleton]at h0;om
 ·h! hc:¬(decide (x.length<(\(#[c]):Str).length)||decide (strKind x<strKind \(#[c])))=true:=λhc=>by
   o!⟨f,h⟩:=StrLaws.occ_chain x \(#[c]) (x.length+1);cases ho:occurrences x \(#[c]) 0 x.length (x.length+1)with
   |nil=>rw[ho]at he;~he rfl
   |cons i r=>
    rw[ho]at h;h! hm:=(StrLaws.subAt_one x c i).mp h.2.1;h! hin:c∈x.cps.toList:=List.mem_of_getElem? hm;~StrLaws.split_free x c x (by u! Txt.split;rw[if_pos hc];~List.mem_singleton.mpr rfl) hin
  h! hs:Txt.split x \(#[c])=partsBetween x (occurrences x \(#[c]) 0 x.length (x.length+1)) 1:=by
   u! Txt.split;rw[if_neg hc,if_neg he];rfl
  rw[hs,PySem.length_partsBetween]at h0;om
D! cnt(c:Nat)(l:List Nat):Nat:=(l.filter λy=>y==c).length
T! jJ(c:Nat)(x y:List Nat):cnt c (x++y)=cnt c x+cnt c y:=by u! cnt;rw[List.filter_append,List.length_append]
structure kI(x:List Nat):Prop where
 r:cnt 40 x=cnt 41 x
 s:cnt 91 x=cnt 93 x
T! kI.app{x y:List Nat}(hx:kI x)(hy:kI y):kI (x++y):=\(by rw[jJ,jJ,hx.r,hy.r],by rw[jJ,jJ,hx.s,hy.s])
T! cnt_none{c:Nat}{x:List Nat}(h:c∉x):cnt c x=0:=by
 u! cnt;rw[List.filter_eq_nil_iff.mpr λy hy e=>h (by rw[<-eq_of_beq e];~hy)];rfl
T! t7{x:List Nat}(h:∀c∈x,dM c=false/\isC c=false):kI x:=by
 h! n1:∀c,dM c=true\/isC c=true->cnt c x=0:=λc hc=>cnt_none λhx=>by
  o!⟨h1,h2⟩:=h c hx;rcases hc with e|e;·rw[h1]at e;c! e
  ·rw[h2]at e;c! e
 ~\(by rw[n1 40 d?,n1 41 d?],by rw[n1 91 d?,n1 93 d?])
T! zL{x:List Nat}(h:∀c∈x,dq c=true):kI x:=t7 λc hc=>aeT (h c hc)
T! rM{c:Nat}(h:dM c=false/\isC c=false){x:List Nat}(hx:kI x):kI (c::x):=(t7 (x:=[c]) λd hd=>by rw[List.mem_singleton.mp hd];~h).app hx
T! aag{x:List Nat}(hx:kI x):kI (40::(x++[41])):=by
 h! e:(40::(x++[41]))=[40]++(x++[41]):=rfl;rw[e];r!\(?_,?_);·rw[jJ,jJ,jJ,jJ,hx.r,show cnt 40 [40]=1 from rfl,show cnt 41 [40]=0 from rfl,show cnt 40 [41]=0 from rfl,show cnt 41 [41]=1 from rfl];om
 ·rw[jJ,jJ,jJ,jJ,hx.s];rfl
T! ahR{x:List Nat}(hx:kI x):kI (91::(x++[93])):=by
 h! e:(91::(x++[93]))=[91]++(x++[93]):=rfl;rw[e];r!\(?_,?_);·rw[jJ,jJ,jJ,jJ,hx.r];rfl
 ·rw[jJ,jJ,jJ,jJ,hx.s,show cnt 91 [91]=1 from rfl,show cnt 93 [91]=0 from rfl,show cnt 91 [93]=0 from rfl,show cnt 93 [93]=1 from rfl];om
T! aaf(b:Bool){x:List Nat}(hx:kI x):kI (WC.brk 40 41 b x):=by
 u! WC.brk;split;·~aag hx
 ·~hx
T! Qd(b:Bool){x:List Nat}(hx:kI x):kI (WC.brk 91 93 b x):=by
 u! WC.brk;split;·~ahR hx
 ·~hx
T! zM:∀{t:Tm},t.Ok->kI t.tx
 |.num p q,h=>zL (uM h)
 |.here,_=>zL (show∀c∈az "here",dq c=true by decide)
 |.fZ w n,h=>(zL (Yj w)).app (rM d? (zL (by rw[Bp (show 0<=n by h! h':1<=n/\n<=9:=h;om)];~wK _)))
 |.at m,h=>(zL (show∀c∈az "at",dq c=true by decide)).app (rM d? (t7 λc hc=>by
   h!:=h.2.2.1 c hc;u! dM isC;simp;om))
 |.bin s x y,h=>(zM h.1).app (rM d? ((t7 (by c! s<;>decide)).app (rM d? (aaf _ (zM h.2)))))
 |.times p q x,h=>(zL (uM h.1)).app (rM d? ((t7 d?).app (rM d? (aaf _ (zM h.2)))))
 |.abs x,h=>by
  h! h2:=zM (t:=x) h;h! e:Tm.tx (.abs x)=[97,98,115]++(40::(x.tx++[41])):=rfl;rw[e];~(t7 d?).app (aag h2)
T! Jw:∀{c:Cn},c.Ok->kI c.tx
 |.cmp s x y,h=>(zM h.1).app (rM d? ((t7 (by c! s<;>decide)).app (rM d? (zM h.2))))
 |.not c,h=>(t7 d?).app (Qd _ (Jw (c:=c) h))
 |.two s c e,h=>(Qd _ (Jw h.1)).app (rM d? ((t7 (by c! s<;>decide)).app (rM d? (Qd _ (Jw h.2)))))
D! cZ(x:List Nat):Prop:=∀c∈x,c<=127
T! cZ.app{x y:List Nat}(hx:cZ x)(hy:cZ y):cZ (x++y):=λc hc=>(List.mem_append.mp hc).elim (hx c) (hy c)
T! cZ.cons{c:Nat}{x:List Nat}(h:c<=127)(hx:cZ x):cZ (c::x):=λd hd=>(List.mem_cons.mp hd).elim (λe=>by rw[e];~h) (hx d)
T! zE{x:List Nat}(h:∀c∈x,dq c=true):cZ x:=λc hc=>by
 h!:=h c hc;u! dq at this;S![Bool.or_eq_true,Bool.and_eq_true,Nat.ble_eq]at this;om
T! Dz{o c:Nat}(ho:o<=127)(hc:c<=127)(b:Bool){x:List Nat}(hx:cZ x):cZ (WC.brk o c b x):=by
 u! WC.brk;split;·~(hx.app (cZ.cons hc (λ_ h=>by c! h))).cons ho
 ·~hx
T! zG:∀{t:Tm},t.Ok->cZ t.tx
 |.num p q,h=>zE (uM h)
 |.here,_=>zE (show∀c∈az "here",dq c=true by decide)
 |.fZ w n,h=>(zE (Yj w)).app (cZ.cons d? (zE (by rw[Bp (show 0<=n by h! h':1<=n/\n<=9:=h;om)];~wK _)))
 |.at m,h=>(zE (show∀c∈az "at",dq c=true by decide)).app (cZ.cons d? λc hc=>by h!:=h.2.2.1 c hc;om)
 |.bin s x y,h=>(zG h.1).app (cZ.cons d? ((show cZ (az (sg s))by c! s<;>(u! cZ;decide)).app (cZ.cons d? (Dz d? d? _ (zG h.2)))))
 |.times p q x,h=>(zE (uM h.1)).app (cZ.cons d? ((show cZ [42]by u! cZ;decide).app (cZ.cons d? (Dz d? d? _ (zG h.2)))))
 |.abs x,h=>(show cZ [97,98,115,40]by u! cZ;decide).app ((zG (t:=x) h).app (show cZ [41]by u! cZ;decide))
T! DK:∀{c:Cn},c.Ok->cZ c.tx
 |.cmp s x y,h=>(zG h.1).app (cZ.cons d? ((show cZ (az (cg s))by c! s<;>(u! cZ;decide)).app (cZ.cons d? (zG h.2))))
 |.not c,h=>(show cZ [110,111,116,32]by u! cZ;decide).app (Dz d? d? _ (DK (c:=c) h))
 |.two s c e,h=>(Dz d? d? _ (DK h.1)).app (cZ.cons d? ((show cZ (az (cw s))by c! s<;>(u! cZ;decide)).app (cZ.cons d? (Dz d? d? _ (DK h.2)))))
T! anE{c:Cn}(h:c.Ok)(hz:c.sz<=30)(ho:gQ c<=3){cs:List Nat}(e:bQ cs=[91]::(cY c++[[93]])):parse cs=.ok c.d [] c.sz 0:=by
 h! kw:=yj h;h! hb:=aap hz ho;o!⟨_,_,_,_,OO⟩:=Qm (c.sz+1) c (Nat.lt_succ_self _) h kw;h! fu:=(abk c).1;o!⟨m1,m2,m3⟩:=JT [];h! h1:(f1 82).or (cY c++[93]::[]) 0 1=.ok c.d ([93]::[]) (0+c.sz) 1:=OO _ 0 1 82 o? o? o? m1 m2 m3;rw[Nat.zero_add]at h1;h! h2:=Jz (n:=82) (x:=cY c) (r:=[]) (k:=0) (b:=0) o? h1;h! h3:(f1 83).not ([91]::(cY c++[[93]])) 0 0=.ok c.d [] c.sz 0:=by rw[List.append_nil]at h2;~h2
 h! h4:(f1 84).and ([91]::(cY c++[[93]])) 0 0=.ok c.d [] c.sz 0:=by
  show fU ((f1 83).not ([91]::(cY c++[[93]])) 0 0) _=_;rw[h3];rfl
 h! h5:(f1 85).or ([91]::(cY c++[[93]])) 0 0=.ok c.d [] c.sz 0:=by
  show fU ((f1 84).and ([91]::(cY c++[[93]])) 0 0) _=_;rw[h4];rfl
 u! parse;rw[e,h5];rfl
end WS
namespace mQ
open PySem L2 P2 WP WR WC WS TM T2 PySem.NumText
variable{a:Ad}
D! j5(cs:List Nat)(i j:Nat):List Nat:=cs.take i++(cs.drop (i+1)).take (j - (i+1))++cs.drop (j+1)
T! S6{x:Str}{l:List Nat}(h:az x=l):x=aq l:=by rw[<-h,lO]
T! aqg{cs:List Nat}{i:Nat}(h:i<=cs.length):Txt.slice (aq cs) none (some (i:Int))=aq (cs.take i):=by
 r! S6 ?_;rw[JF,lZ];h! e1:sx cs.length 0 none=0:=rfl;h! e2:sx cs.length cs.length (some (i:Int))=i:=by
  show(if(i:Int)<0 then((i:Int)+(cs.length:Int)).toNat else min (i:Int).toNat cs.length)=i;rw[if_neg o?,Int.toNat_natCast];om
 rw[e1,e2];rfl
T! aqh{cs:List Nat}{i j:Nat}(h:i<j)(hj:j<=cs.length):Txt.slice (aq cs) (some ((i:Int)+1)) (some (j:Int))=aq ((cs.drop (i+1)).take (j - (i+1))):=by
 r! S6 ?_;rw[JF,lZ];h! e1:sx cs.length 0 (some ((i:Int)+1))=i+1:=by
  show(if(i:Int)+1<0 then((i:Int)+1+(cs.length:Int)).toNat else min ((i:Int)+1).toNat cs.length)=i+1;rw[if_neg o?];om
 h! e2:sx cs.length cs.length (some (j:Int))=j:=by
  show(if(j:Int)<0 then((j:Int)+(cs.length:Int)).toNat else min (j:Int).toNat cs.length)=j;rw[if_neg o?,Int.toNat_natCast];om
 rw[e1,e2]
T! aqi{cs:List Nat}{j:Nat}(hj:j<cs.length):Txt.slice (aq cs) (some ((j:Int)+1)) none=aq (cs.drop (j+1)):=by
 r! S6 ?_;rw[JF,lZ];h! e1:sx cs.length 0 (some ((j:Int)+1))=j+1:=by
  show(if(j:Int)+1<0 then((j:Int)+1+(cs.length:Int)).toNat else min ((j:Int)+1).toNat cs.length)=j+1;rw[if_neg o?];om
 h! e2:sx cs.length cs.length none=cs.length:=rfl;rw[e1,e2];~List.take_of_length_le (by rw[List.length_drop];~Nat.le_refl _)
T! ahU{cs:List Nat}{i j:Nat}(h:i<j)(hj:j<cs.length)(hi:∃c,cs[i]?=some c/\dM c=true)(hc:∃c,cs[j]?=some c/\isC c=true):dw (j5 cs i j)+1=dw cs:=by
 o!⟨x,hx,ox⟩:=hi;o!⟨y,hy,cy⟩:=hc;h! oy:dM y=false:=by
  cases e:dM y with
  |false=>rfl
  |true=>rw[acP e]at cy;c! cy
 h! e1:cs=cs.take i++x::cs.drop (i+1):=by
  h!:=List.take_append_drop i cs;rw[List.drop_eq_getElem_cons (show i<cs.length by om)]at this;h! Li:cs[i]'o?=x:=by rw[List.getElem?_eq_getElem o?]at hx;~Option.some.inj hx
  rw[Li]at this;~this.symm
 h! e2:cs.drop (i+1)=(cs.drop (i+1)).take (j - (i+1))++y::cs.drop (j+1):=by
  h!:=List.take_append_drop (j - (i+1)) (cs.drop (i+1));rw[List.drop_drop,show i+1+(j - (i+1))=j by om,List.drop_eq_getElem_cons hj]at this;h! hy2:cs[j]=y:=by rw[List.getElem?_eq_getElem hj]at hy;~Option.some.inj hy
  rw[hy2]at this;~this.symm
 h! e3:dw cs=dw (cs.take i)+(1+(dw ((cs.drop (i+1)).take (j - (i+1)))+dw (cs.drop (j+1)))):=by
  conv=>lhs;rw[e1,jT,yx,e2,jT,yx]
  h! ox':(x==40||x==91)=true:=ox;h! oy':(y==40||y==91)=false:=oy;rw[if_pos ox',if_neg (by rw[oy'];decide)];om
 rw[e3];u! j5;rw[jT,jT];om
T! ahT(cs:List Nat)(i j:Nat)(h:i<j)(hj:j<cs.length):(j5 cs i j).length<=cs.length:=by
 u! j5;S![List.length_append,List.length_take,List.length_drop];om
T! ahS{cs:List Nat}(h:cZ cs)(i j:Nat):cZ (j5 cs i j):=λc hc=>by
 u! j5 at hc;rcases List.mem_append.mp hc with hc|hc
 ·rcases List.mem_append.mp hc with hc|hc
  ·~h c (List.mem_of_mem_take hc)
  ·~h c (List.mem_of_mem_drop (List.mem_of_mem_take hc))
 ·~h c (List.mem_of_mem_drop hc)
T! afJ{cs:List Nat}{t:Tk}(h:t∈bQ cs):t.length<=cs.length+1:=
 arx (l:=cs) (List.mem_filter.mp (show t∈(bF 32 (cs.flatMap cJ)).filter λt=>!t.isEmpty from h)).1
A! Pj(a:Ad)(Fr:R!):Prop:=∀cs:List Nat,cs.length<=30000->cZ cs->(∀t∈bQ cs,t.length<=1000)->acZ a (parse cs) (Fr [tS cs])
A! Ou(iQ:R!):Prop:=∀x y:Cn,y.sz<=30->∃b,iQ [x.d,y.d]=.ok (.bl b)/\(b=true↔x.d=y.d)
T! alO{cs:List Nat}(hl:cs.length<=5000){i j:Nat}(h:i<j)(hj:j<cs.length)(s2 s3 s4:Sl):(d2 aP (d2 aP (iG ig &0 (λ_=>.ok none) (λρ=>((d2 aO &1 #0) ρ).bind pI)) (iG ig &0 (λρ=>((d2 aP (d2 aO &1 #0) #1) ρ).bind pI) (λρ=>((d2 aO &1 #1) ρ).bind pI))) (iG ig &0 (λρ=>((d2 aP (d2 aO &1 #1) #1) ρ).bind pI) (λ_=>.ok none))) [.sh (.str (aq cs)),.sh (pairD (i,j)),s2,s3,s4]=.ok (.str (aq (j5 cs i j))):=by
 h! sl:=sizeLine_eq;h! lz:(aq cs).length<=sizeLine:=by rw[qK];om
 h! i0:(d2 aO &1 #0) [.sh (.str (aq cs)),.sh (pairD (i,j)),s2,s3,s4]=.ok (.int (i:Int)):=rfl;h! i1:(d2 aO &1 #1) [.sh (.str (aq cs)),.sh (pairD (i,j)),s2,s3,s4]=.ok (.int (j:Int)):=rfl;h! x1:(iG ig &0 (λ_=>.ok none) (λρ=>((d2 aO &1 #0) ρ).bind pI)) [.sh (.str (aq cs)),.sh (pairD (i,j)),s2,s3,s4]=.ok (.str (aq (cs.take i))):=by
  rw[BL,ou,aV,i0];show(if(aq cs).length<=sizeLine then R.ok (D.str (Txt.slice (aq cs) none (some (i:Int))))else .bad)=_;rw[if_pos lz,aqg o?]
 h! x2:(iG ig &0 (λρ=>((d2 aP (d2 aO &1 #0) #1) ρ).bind pI) (λρ=>((d2 aO &1 #1) ρ).bind pI)) [.sh (.str (aq cs)),.sh (pairD (i,j)),s2,s3,s4]=.ok (.str (aq ((cs.drop (i+1)).take (j - (i+1))))):=by
  rw[BL,ou,aV,ie,i0,i1];show(if(aq cs).length<=sizeLine then R.ok (D.str (Txt.slice (aq cs) (some ((i:Int)+1)) (some (j:Int))))else .bad)=_;rw[if_pos lz,aqh h o?]
 h! x3:(iG ig &0 (λρ=>((d2 aP (d2 aO &1 #1) #1) ρ).bind pI) (λ_=>.ok none)) [.sh (.str (aq cs)),.sh (pairD (i,j)),s2,s3,s4]=.ok (.str (aq (cs.drop (j+1)))):=by
  rw[BL,ou,aV,ie,i1];show(if(aq cs).length<=sizeLine then R.ok (D.str (Txt.slice (aq cs) (some ((j:Int)+1)) none))else .bad)=_;rw[if_pos lz,aqi hj]
 h! a1:=gj (x:=cs.take i) (y:=(cs.drop (i+1)).take (j - (i+1))) (by rw[List.length_take];om) (by rw[List.length_take,List.length_drop];om);h! a2:=gj (x:=cs.take i++(cs.drop (i+1)).take (j - (i+1))) (y:=cs.drop (j+1)) (by S![List.length_append,List.length_take,List.length_drop];om) (by rw[List.length_drop];om);rw[ie,ie,x1,aV,x2,aV,a1,aV,x3,aV,a2];rfl
T! ald{Fr iQ:R!}(hr:Pj a Fr)(hal:Ou iQ)(mt:wy a.d9 a.NoText a.NoText=true){c:Cn}(h:c.Ok)(hz:c.sz<=30){p:Nat×Nat}(hp:p.1<p.2/\p.2<c.tx.length/\(∃x,c.tx[p.1]?=some x/\dM x=true)/\∃x,c.tx[p.2]?=some x/\isC x=true):
    aL (Ku a Fr iQ (aM 5 [tS c.tx,pairD p,c.d]))=.ok (.bl true):=by
 o!⟨i,j⟩:=p;o!⟨h1,h2,h3,h4⟩:=hp;h! l25:=Cn.pL h;h! hl:c.tx.length<=750:=by om
 h! bl:=ahT c.tx i j h1 h2;h! ra:=hr (j5 c.tx i j) o? (ahS (DK h) i j) λt ht=>by h!:=afJ ht;om
 h! bo:=ahU h1 h2 h3 h4;h! nt:=alO (cs:=c.tx) o? h1 h2 (.sh c.d) .no .no;u! Ku;rw[show aM 5 [tS c.tx,pairD (i,j),c.d]=[.sh (.str (aq c.tx)),.sh (pairD (i,j)),.sh c.d,.no,.no]from rfl];h! s1:bZ 3 (d2 aP (d2 aP (iG ig &0 (λ_=>.ok none) (λρ=>((d2 aO &1 #0) ρ).bind pI)) (iG ig &0 (λρ=>((d2 aP (d2 aO &1 #0) #1) ρ).bind pI) (λρ=>((d2 aO &1 #1) ρ).bind pI))) (iG ig &0 (λρ=>((d2 aP (d2 aO &1 #1) #1) ρ).bind pI) (λ_=>.ok none))) [.sh (.str (aq c.tx)),.sh (pairD (i,j)),.sh c.d,.no,.no]=.nx [.sh (.str (aq c.tx)),.sh (pairD (i,j)),.sh c.d,.sh (.str (aq (j5 c.tx i j))),.no]:=by
  rw[yG,nt];rfl
 r! lR s1 ?_;r! lR (cP:=[.sh (.str (aq c.tx)),.sh (pairD (i,j)),.sh c.d,.sh (.str (aq (j5 c.tx i j))),.sh .non]) rfl ?_;h! ea:∀s4,(JL Fr (ak &3 aB)) [.sh (.str (aq c.tx)),.sh (pairD (i,j)),.sh c.d,.sh (.str (aq (j5 c.tx i j))),s4]=Fr [tS (j5 c.tx i j)]:=λ_=>rfl;cases q:parse (j5 c.tx i j)with
 |bad=>~absurd q (anF _)
 |no=>
  rw[q]at ra;h! Vz:Fr [tS (j5 c.tx i j)]=.ex a.NoText ["row"] [.int 1]:=ra;r! lR (cP:=[.sh (.str (aq c.tx)),.sh (pairD (i,j)),.sh c.d,.sh (.str (aq (j5 c.tx i j))),.sh (.str "refused")]) ?_ ?_
  ·u! Hz
   dsimp only;rw[ea,Vz];show(if wy a.d9 a.NoText a.NoText=true then aaz _ else RT.bad)=_;rw[if_pos mt];rfl
  ·h! e1:xN (.str (Str.ofString "refused")) (.str (Str.ofString "refused"))=.ok (.bl true):=by u! xN;simp
   rw[Ho,Hk,ie,Hr,aV,iY,aV,e1];rfl
 |ok d r k b=>
  rw[q]at ra;h! Vz:Fr [tS (j5 c.tx i j)]=.ok d:=ra;o!⟨c',rfl,_⟩:=ac4 q;h! ne:=bare h bo q;o!⟨bb,ha,hb⟩:=hal c' c hz;h! hbf:bb=false:=by
   cases bb with
   |false=>rfl
   |true=>~absurd (hb.mp rfl) ne
  rw[hbf]at ha;r! lR (cP:=[.sh (.str (aq c.tx)),.sh (pairD (i,j)),.sh c.d,.sh (.str (aq (j5 c.tx i j))),.sh c'.d]) ?_ ?_
  ·u! Hz
   dsimp only;rw[ea,Vz];rfl
  ·h! e1:xN c'.d (.str (Str.ofString "refused"))=.ok (.bl false):=by c! c'<;>rfl
   h! e2:(vR (dA iQ (ak &4 (ak &2 aB)))) [.sh (.str (aq c.tx)),.sh (pairD (i,j)),.sh c.d,.sh (.str (aq (j5 c.tx i j))),.sh c'.d]=.ok (.bl true):=by
    rw[M5];show((iQ [c'.d,c.d]).bind P2.tB).bind _=_;rw[ha];rfl
   h! e3:(Ed (d2 xN &4 #"refused") (vR (dA iQ (ak &4 (ak &2 aB))))) [.sh (.str (aq c.tx)),.sh (pairD (i,j)),.sh c.d,.sh (.str (aq (j5 c.tx i j))),.sh c'.d]=.ok (.bl true):=by
    rw[Hk,ie,Hr,aV,iY,aV,e1];~e2
   rw[Ho,e3];rfl
end mQ
namespace mQ
open PySem L2 P2 WP WR WC WS TM T2 PySem.NumText
variable{a:Ad}
T! aiD{α:Type}(f:α->D)(ns:List α)(lo hi:Option Int):∃ms:List α,cutD (ns.map f) lo hi=ms.map f:=by
 u! cutD;r!\(?_,?_)
 rotate_left
 ·rw[List.length_map,<-List.map_drop,<-List.map_take]
T! ao(x:Int):∃w:Bool,L2.bN [D.str (Str.ofString "and"),D.str (Str.ofString "or")] (x%2)=some (.str (cw w)):=by
 h!:x%2=0\/x%2=1:=by om
 rcases this with h|h;·~\(true,by rw[h];rfl)
 ·~\(false,by rw[h];rfl)
section
variable{Fc fQ Fs Fw Fr iQ Fp Fn:R!}
T! ahL{c:Cn}{x:Str}{s0 s1 s3 s4 s5 s6 s7 s9:Sl}(hx:Fr [.str x]=.ok c.d)(hal:iQ [c.d,c.d]=.ok (.bl true)):
    DP a Fc fQ Fs Fw Fr iQ Fp Fn [s0,s1,.sh c.d,s3,s4,s5,s6,s7,.sh (.str x),s9]=.nx [s0,s1,.sh c.d,s3,s4,s5,s6,s7,.sh (.str x),s9]:=by
 h! e:(ji (b1 tT (dA iQ (ak (dA Fr (ak &8 aB)) (ak &2 aB))))) [s0,s1,.sh c.d,s3,s4,s5,s6,s7,.sh (.str x),s9]=.ok false:=by
  rw[Hi,Hg,lu,fL,lu,fL,Vv,aV,ju,aV,aV,hx,aV,fL,uK,aV,ju,aV,aV,aV,hal];rfl
 u! DP;rw[BW,e];rfl
T! ab4{c:Cn}{s0 s1 s3 s4 s5 s6 s7 s9:Sl}(hal:iQ [c.d,c.d]=.ok (.bl true)):∀(xs:List Str) (s8:Sl),(∀x∈xs,Fr [.str x]=.ok c.d)->
    ∃VR,oW (gV 8) (DP a Fc fQ Fs Fw Fr iQ Fp Fn) (xs.map D.str) [s0,s1,.sh c.d,s3,s4,s5,s6,s7,s8,s9]=.nx [s0,s1,.sh c.d,s3,s4,s5,s6,s7,VR,s9]
 |[],s8,_=>\(s8,rfl)
 |x::xs,s8,h=>by
  o!⟨VR,g⟩:=ab4 hal xs (.sh (.str x)) λy hy=>h y (.tail _ hy);r!\(VR,?_);rw[List.map_cons,Vf];show turnT (DP a Fc fQ Fs Fw Fr iQ Fp Fn [s0,s1,.sh c.d,s3,s4,s5,s6,s7,.sh (.str x),s9]) _=_;rw[ahL (h x (.head _)) hal,Hq];~g
T! ahM{c:Cn}{p:Nat×Nat}{s0 s1 s4 s5 s6 s7 s8:Sl}(h:Fn [tS c.tx,pairD p,c.d]=.ok (.bl true)):
    DQ a Fc fQ Fs Fw Fr iQ Fp Fn [s0,s1,.sh c.d,.sh (tS c.tx),s4,s5,s6,s7,s8,.sh (pairD p)]=.nx [s0,s1,.sh c.d,.sh (tS c.tx),s4,s5,s6,s7,s8,.sh (pairD p)]:=by
 h! e:(ji (b1 tT (dA Fn (ak &3 (ak &9 (ak &2 aB)))))) [s0,s1,.sh c.d,.sh (tS c.tx),s4,s5,s6,s7,s8,.sh (pairD p)]=.ok false:=by
  rw[Hi,Hg,lu,fL,BZ,aV,fL,Vw,aV,fL,uK,aV,ju,aV,aV,aV,aV,h];rfl
 u! DQ;rw[BW,e];rfl
T! ab5{c:Cn}{s0 s1 s4 s5 s6 s7 s8:Sl}:∀(ps:List (Nat×Nat)) (s9:Sl),(∀p∈ps,Fn [tS c.tx,pairD p,c.d]=.ok (.bl true))->
    ∃V0,oW (gV 9) (DQ a Fc fQ Fs Fw Fr iQ Fp Fn) (ps.map pairD) [s0,s1,.sh c.d,.sh (tS c.tx),s4,s5,s6,s7,s8,s9]=.nx [s0,s1,.sh c.d,.sh (tS c.tx),s4,s5,s6,s7,s8,V0]
 |[],s9,_=>\(s9,rfl)
 |p::ps,s9,h=>by
  o!⟨V0,g⟩:=ab5 ps (.sh (pairD p)) λy hy=>h y (.tail _ hy);r!\(V0,?_);rw[List.map_cons,Vf];show turnT (DQ a Fc fQ Fs Fw Fr iQ Fp Fn [s0,s1,.sh c.d,.sh (tS c.tx),s4,s5,s6,s7,s8,.sh (pairD p)]) _=_;rw[ahM (h p (.head _)),Hq];~g
T! JK(x:List Nat)(z:Str)(c:Nat)(hz:z=\(#[c])):iR (.str (aq x)) [.str z]=.ok (.int (cnt c x:Nat)):=by
 show R.ok (D.int (Txt.count (aq x) z))=_;rw[hz,aiy];rfl
T! ak5(hc:∀(ns:List Int) (k:Nat),Fc [.lst (ns.map .int),.int k]=.ok (.int (ns.getD k 0)))
    (hco:∀(h:Int) (ns:List Int) (w:Bool),∃c:Cn,(c.Ok/\gQ c<=3)/\c.sz<=30/\fQ [.int h,.lst (ns.map .int),.str (cw w)]=.ok (bc c))
    (hs:∀c:Cn,c.Ok->c.sz<=30->Fs [c.d]=.ok (.str (aq c.tx)))
    (hw:∀(cs:List Nat) (n:Int),cs.length<=5000->Fw [tS cs,.int n]=.ok (tS (mF cs n)))(hr:Pj a Fr)(hal:Ou iQ)
    (hp:∀cs:List Nat,cs.length<=5000->Dy cs->∃qs:List (Nat×Nat),(∀p∈qs,p.1<p.2/\p.2<cs.length/\(∃c,cs[p.1]?=some c/\dM c=true)/\∃c,cs[p.2]?=some c/\isC c=true)/\qs.length<=cs.length/\Fp [tS cs]=.ok (.lst (qs.map pairD)))
    (hn:∀c:Cn,c.Ok->c.sz<=30->∀p:Nat×Nat,(p.1<p.2/\p.2<c.tx.length/\(∃x,c.tx[p.1]?=some x/\dM x=true)/\∃x,c.tx[p.2]?=some x/\isC x=true)->Fn [tS c.tx,pairD p,c.d]=.ok (.bl true))(ns:List Int):
    aL (Rh a Fc fQ Fs Fw Fr iQ Fp Fn (aM 10 [.lst (ns.map .int)]))=.ok (.bl true):=by
 h! c0:Fc [.lst (ns.map .int),.int 0]=.ok (.int (ns.getD 0 0)):=hc ns 0;h! c1:Fc [.lst (ns.map .int),.int 1]=.ok (.int (ns.getD 1 0)):=hc ns 1;o!⟨ms,hm⟩:=aiD D.int ns (some 2) none;o!⟨w,hw'⟩:=ao (ns.getD 1 0);o!⟨c,⟨cO,cv⟩,cz,e1⟩:=hco (ns.getD 0 0) ms w;h! e2:=hs c cO cz;h! l25:=Cn.pL cO;h! hl:c.tx.length<=750:=by om
 h! hsl:=aqz c.tx (ns.getD 1 0);h! e3:=hw c.tx (ns.getD 1 0) o?;h! asc:=DK cO;h! sl:=sizeLine_eq;h! tl:∀t∈cY c,t.length<=1000:=λt ht=>by
  rw[<-HW cO (yj cO)]at ht;h!:=afJ ht;om
 h! tx:bQ c.tx=cY c:=HW cO (yj cO);h! Wg:cZ (mF c.tx (ns.getD 1 0)):=λd hd=>by
  rcases aqA _ _ hd with h|h;·~asc d h
  ·om
 h! st:bQ (mF c.tx (ns.getD 1 0))=cY c:=by
  h!:=aqB c.tx (ns.getD 1 0) [];rw[List.nil_append,List.nil_append]at this;rw[this,tx]
 h! rd:∀cs:List Nat,cs.length<=30000->cZ cs->bQ cs=cY c->Fr [tS cs]=.ok c.d:=λcs h1 h2 h3=>by
  h!:=hr cs h1 h2 (by rw[h3];~tl);rw[anG cO cz cv h3]at this;~this
 h! Z7:iQ [c.d,c.d]=.ok (.bl true):=by
  o!⟨b,h1,h2⟩:=hal c c cz;rw[h2.mpr rfl]at h1;~h1
 o!⟨i0,_⟩:=uR (d:=c.d) (x:=c.tx) (r:=c.rk);h! Gs:aO (bc c) (.int 0)=.ok c.d:=i0;o!⟨z,z1,z2,z3,z4⟩:=aeM [43,45,42,60,61] d? (aq c.tx) (by rw[qK];om);rw[lZ]at z2 z3 z4;h! zr:Fr [.str z]=.ok c.d:=by
  h!:=rd (az z) o? (λd hd=>asc d (z4 d hd)) (by rw[z2,tx]);rw[show tS (az z)=.str z by show D.str (aq (az z))=_;rw[lO]]at this;~this
 o!⟨qs,q1,q2,q3⟩:=hp c.tx o? (JR cO);h! bal:=Jw cO;h! k1:=JK c.tx (Str.ofString "(") 40 d?;h! k2:=JK c.tx (Str.ofString ")") 41 d?;h! k3:=JK c.tx (Str.ofString "[") 91 d?;h! k4:=JK c.tx (Str.ofString "]") 93 d?;rw[<-bal.r]at k2;rw[<-bal.s]at k4;generalize cnt 40 c.tx=n1 at k1 k2;generalize cnt 91 c.tx=n2 at k3 k4;u! Rh;rw[show aM 10 [.lst (ns.map .int)]=[.sh (.lst (ns.map .int)),.no,.no,.no,.no,.no,.no,.no,.no,.no]from rfl];h! l2:2<=sizeLine:=by decide
 h! p1:bZ 1 (dA fQ (ak (dA Fc (ak &0 (ak #0 aB))) (ak (iG ig &0 (λρ=>(#2 ρ).bind pI) (λ_=>.ok none)) (ak (d2 aO (jh (λρ=>((ak #"and" (ak #"or" aB)) ρ).bind jM)) (d2 eZ (dA Fc (ak &0 (ak #1 aB))) #2)) aB)))) [.sh (.lst (ns.map .int)),.no,.no,.no,.no,.no,.no,.no,.no,.no]=.nx [.sh (.lst (ns.map .int)),.sh (bc c),.no,.no,.no,.no,.no,.no,.no,.no]:=by
  generalize bc c=T at*;generalize ns.getD 0 0=n0 at*;generalize ns.getD 1 0=m1 at*;iterate 9 (walk_at "den";try S![c0,c1,hm,hw',e1,if_pos l2])
 r! lR p1 ?_;r! lR (cP:=[.sh (.lst (ns.map .int)),.sh (bc c),.sh c.d,.no,.no,.no,.no,.no,.no,.no]) (by rw[yG,ie,qO,aV,iY,aV,Gs];rfl) ?_;r! lR (cP:=[.sh (.lst (ns.map .int)),.sh (bc c),.sh c.d,.sh (tS c.tx),.no,.no,.no,.no,.no,.no]) (by rw[yG,lu,fL,uK,aV,ju,aV,aV,e2];rfl) ?_;r! lR (cP:=[.sh (.lst (ns.map .int)),.sh (bc c),.sh c.d,.sh (tS c.tx),.no,.no,.no,.no,.no,.no]) ?_ ?_
 ·h! nb:(ji (b1 tT (dA (eX a.d9) (ak &3 (ak (dC (.ty "str")) aB))))) [.sh (.lst (ns.map .int)),.sh (bc c),.sh c.d,.sh (tS c.tx),.no,.no,.no,.no,.no,.no]=.ok false:=rfl
  h! ct:∀(s:Str) (n:Nat),iR (tS c.tx) [.str s]=.ok (.int (n:Int))->(gM "str" iR &3 (ak (dC (.str s)) aB)) [.sh (.lst (ns.map .int)),.sh (bc c),.sh c.d,.sh (tS c.tx),.no,.no,.no,.no,.no,.no]=.ok (.int (n:Int)):=λs n h=>h;h! nq:∀(s s':Str) (n:Nat),iR (tS c.tx) [.str s]=.ok (.int (n:Int))->iR (tS c.tx) [.str s']=.ok (.int (n:Int))->(b1 P2.tB (d2 fY (gM "str" iR &3 (ak (dC (.str s)) aB)) (gM "str" iR &3 (ak (dC (.str s')) aB)))) [.sh (.lst (ns.map .int)),.sh (bc c),.sh c.d,.sh (tS c.tx),.no,.no,.no,.no,.no,.no]=.ok false:=λs s' n h h'=>by
   rw[qN,ie,ct s n h,aV,ct s' n h',aV];show(R.ok (D.bl (!decide ((n:Int)=(n:Int))))).bind P2.tB=_;rw[decide_eq_true rfl];rfl
  h! cond:(kY (ji (b1 tT (dA (eX a.d9) (ak &3 (ak (dC (.ty "str")) aB))))) (kY (b1 P2.tB (d2 fY (gM "str" iR &3 (ak #"(" aB)) (gM "str" iR &3 (ak #")" aB)))) (b1 P2.tB (d2 fY (gM "str" iR &3 (ak #"[" aB)) (gM "str" iR &3 (ak #"]" aB)))))) [.sh (.lst (ns.map .int)),.sh (bc c),.sh c.d,.sh (tS c.tx),.no,.no,.no,.no,.no,.no]=.ok false:=by
   rw[MT,nb,aV,if_neg Bool.false_ne_true,MT,nq _ _ n1 k1 k2,aV,if_neg Bool.false_ne_true];~nq _ _ n2 k3 k4
  rw[BW,cond];rfl
 r! lR (cP:=[.sh (.lst (ns.map .int)),.sh (bc c),.sh c.d,.sh (tS c.tx),.sh (.int (ns.getD 1 0)),.no,.no,.no,.no,.no]) (by rw[yG,lu,fL,ou,aV,fL,iY,aV,ju,aV,aV,aV,c1];rfl) ?_;r! lR (cP:=[.sh (.lst (ns.map .int)),.sh (bc c),.sh c.d,.sh (tS c.tx),.sh (.int (ns.getD 1 0)),.sh (tS (mF c.tx (ns.getD 1 0))),.no,.no,.no,.no]) (by rw[yG,lu,fL,BZ,aV,fL,Hr,aV,ju,aV,aV,aV,e3];rfl) ?_;r! lR (cP:=[.sh (.lst (ns.map .int)),.sh (bc c),.sh c.d,.sh (tS c.tx),.sh (.int (ns.getD 1 0)),.sh (tS (mF c.tx (ns.getD 1 0))),.sh (tS c.tx),.no,.no,.no]) rfl ?_;r! lR (cP:=[.sh (.lst (ns.map .int)),.sh (bc c),.sh c.d,.sh (tS c.tx),.sh (.int (ns.getD 1 0)),.sh (tS (mF c.tx (ns.getD 1 0))),.sh (.str z),.sh (.str \(#[61])),.no,.no]) ?_ ?_
 ·h! cp:(Str.ofString "+-*<=").cps.toList=[43,45,42,60,61]:=by decide
  show(match uL " " " " (Str.ofString "+-*<=").cps.toList (aq c.tx),(Str.ofString "+-*<=").cps.toList.getLast? with
   |some z,some k=>if 7<10 then RT.nx _ else .bad
   |_,_=>.bad)=_
  rw[cp,z1];rfl
 generalize hW:mF c.tx (ns.getD 1 0)=W at*;h! a1:=gj (x:=[32,32]) (y:=W) (by simp) o?;h! a2:=gj (x:=[32,32]++W) (y:=[32]) (by rw[List.length_append];simp;om) (by simp);h! a3:=gj (x:=[91]) (y:=W) (by simp) o?;h! a4:=gj (x:=[91]++W) (y:=[93]) (by rw[List.length_append];simp;om) (by simp);h! r1:=rd c.tx o? asc tx;h! r2:=rd W o? Wg st;h! r3:=rd ([32,32]++W++[32]) (by S![List.length_append,List.length_cons,List.length_nil];om) (((show cZ [32,32]by u! WS.cZ;decide).app Wg).app (show cZ [32]by u! WS.cZ;decide)) (by
  h! h1:=afI 1 ([32,32]++W);h! h2:=NZ 2 W;rw[show List.replicate 1 32=[32]from rfl]at h1;rw[h1];rw[show List.replicate 2 32=[32,32]from rfl]at h2;rw[h2,st])
 h! r4:Fr [tS ([91]++W++[93])]=.ok c.d:=by
  h! tk:bQ ([91]++W++[93])=[91]::(cY c++[[93]]):=by
   h! h1:=uV (c:=91) d? d? [] (W++[93]);h! h2:=uV (c:=93) d? d? W [];rw[Cu]at h1 h2;show bQ ([]++91::(W++[93]))=_;rw[h1,List.nil_append,h2,st]
  h!:=hr ([91]++W++[93]) (by S![List.length_append,List.length_cons,List.length_nil];om) (((show cZ [91]by u! WS.cZ;decide).app Wg).app (show cZ [93]by u! WS.cZ;decide)) (by
   rw[tk];intro t ht;rcases List.mem_cons.mp ht with rfl|ht;· decide
   · rcases List.mem_append.mp ht with ht|ht
     · ~tl t ht
     · rw[List.mem_singleton.mp ht];decide)
  rw[anE cO cz cv tk]at this;~this
 o!⟨s8,g8⟩:=ab4 (a:=a) (Fc:=Fc) (fQ:=fQ) (Fs:=Fs) (Fw:=Fw) (Fr:=Fr) (Fp:=Fp) (Fn:=Fn) (c:=c) (s0:=.sh (.lst (ns.map .int))) (s1:=.sh (bc c)) (s3:=.sh (tS c.tx)) (s4:=.sh (.int (ns.getD 1 0))) (s5:=.sh (tS W)) (s6:=.sh (.str z)) (s7:=.sh (.str \(#[61]))) (s9:=.no) Z7 [aq c.tx,aq W,aq ([32,32]++W++[32]),z] .no (λx hx=>by
  rcases List.mem_cons.mp hx with rfl|hx;· ~r1
  · rcases List.mem_cons.mp hx with rfl|hx
    · ~r2
    · rcases List.mem_cons.mp hx with rfl|hx
      · ~r3
      · rw[List.mem_singleton.mp hx];~zr)
 r! lR (cP:=[.sh (.lst (ns.map .int)),.sh (bc c),.sh c.d,.sh (tS c.tx),.sh (.int (ns.getD 1 0)),.sh (tS W),.sh (.str z),.sh (.str \(#[61])),s8,.no]) ?_ ?_
 ·h! m0:(Str.ofString "  ")=aq [32,32]:=by decide
  h! m1:(Str.ofString " ")=aq [32]:=by decide
  h! ad:(d2 aP (d2 aP #"  " &5) #" ") [.sh (.lst (ns.map .int)),.sh (bc c),.sh c.d,.sh (tS c.tx),.sh (.int (ns.getD 1 0)),.sh (tS W),.sh (.str z),.sh (.str \(#[61])),.no,.no]=.ok (tS ([32,32]++W++[32])):=by
   rw[ie,ie,iY,aV,Hs,aV,iY,m0,m1,a1,aV,aV,a2]
  h! fe:((jh (λρ=>((ak &3 (ak &5 (ak (d2 aP (d2 aP #"  " &5) #" ") (ak &6 aB)))) ρ).bind jM)) [.sh (.lst (ns.map .int)),.sh (bc c),.sh c.d,.sh (tS c.tx),.sh (.int (ns.getD 1 0)),.sh (tS W),.sh (.str z),.sh (.str \(#[61])),.no,.no]).bind jH=.ok ([aq c.tx,aq W,aq ([32,32]++W++[32]),z].map D.str):=by
   rw[Hf,fL,BZ,aV,fL,Hs,aV,fL,ad,aV,fL,Vu,aV,ju,aV,aV,aV,aV,aV];rfl
  rw[Hn,fe,uJ];~g8
 r! lR (cP:=[.sh (.lst (ns.map .int)),.sh (bc c),.sh c.d,.sh (tS c.tx),.sh (.int (ns.getD 1 0)),.sh (tS W),.sh (.str z),.sh (.str \(#[61])),s8,.no]) ?_ ?_
 ·h! m0:(Str.ofString "[")=aq [91]:=by decide
  h! m1:(Str.ofString "]")=aq [93]:=by decide
  h! ct:∀(s:Str) (n:Nat),iR (tS c.tx) [.str s]=.ok (.int (n:Int))->(gM "str" iR &3 (ak (dC (.str s)) aB)) [.sh (.lst (ns.map .int)),.sh (bc c),.sh c.d,.sh (tS c.tx),.sh (.int (ns.getD 1 0)),.sh (tS W),.sh (.str z),.sh (.str \(#[61])),s8,.no]=.ok (.int (n:Int)):=λs n h=>h;h! x1:(b1 P2.tB (d2 nZ (d2 aP (gM "str" iR &3 (ak #"[" aB)) (gM "str" iR &3 (ak #"(" aB))) #15)) [.sh (.lst (ns.map .int)),.sh (bc c),.sh c.d,.sh (tS c.tx),.sh (.int (ns.getD 1 0)),.sh (tS W),.sh (.str z),.sh (.str \(#[61])),s8,.no]=.ok (decide ((n2:Int)+(n1:Int)<15)):=by
   rw[qN,ie,ie,ct _ n2 k3,aV,ct _ n1 k1,aV];rfl
  h! ad:(d2 aP (d2 aP #"[" &5) #"]") [.sh (.lst (ns.map .int)),.sh (bc c),.sh c.d,.sh (tS c.tx),.sh (.int (ns.getD 1 0)),.sh (tS W),.sh (.str z),.sh (.str \(#[61])),s8,.no]=.ok (tS ([91]++W++[93])):=by
   rw[ie,ie,iY,aV,Hs,aV,iY,m0,m1,a3,aV,aV,a4]
  h! x2:(ji (b1 tT (dA iQ (ak (dA Fr (ak (d2 aP (d2 aP #"[" &5) #"]") aB)) (ak &2 aB))))) [.sh (.lst (ns.map .int)),.sh (bc c),.sh c.d,.sh (tS c.tx),.sh (.int (ns.getD 1 0)),.sh (tS W),.sh (.str z),.sh (.str \(#[61])),s8,.no]=.ok false:=by
   rw[Hi,Hg,lu,fL,lu,fL,ad,aV,ju,aV,aV,r4,aV,fL,uK,aV,ju,aV,aV,aV,Z7];rfl
  rw[BW,Va,x1,aV];by_cases ux:decide ((n2:Int)+(n1:Int)<15)=true;·rw[if_pos ux,x2];rfl
  ·rw[if_neg ux];rfl
 o!⟨s9,g9⟩:=ab5 (a:=a) (Fc:=Fc) (fQ:=fQ) (Fs:=Fs) (Fw:=Fw) (Fr:=Fr) (iQ:=iQ) (Fp:=Fp) (Fn:=Fn) (c:=c) (s0:=.sh (.lst (ns.map .int))) (s1:=.sh (bc c)) (s4:=.sh (.int (ns.getD 1 0))) (s5:=.sh (tS W)) (s6:=.sh (.str z)) (s7:=.sh (.str \(#[61]))) (s8:=s8) qs .no (λp hp=>hn c cO cz p (q1 p hp));r! lR (cP:=[.sh (.lst (ns.map .int)),.sh (bc c),.sh c.d,.sh (tS c.tx),.sh (.int (ns.getD 1 0)),.sh (tS W),.sh (.str z),.sh (.str \(#[61])),s8,s9]) ?_ rfl;rw[Hn,lu,fL,BZ,aV,ju,aV,aV,q3,aV,MP,uJ];~g9
end
end mQ
namespace P2
open PySem PySem.Spec PyProof.Rows Fx L2
structure Wt(P:Program)(w:World)(K:W.Frag)(mg:G!)(base h:Heap):Prop where
 X:K.In h
 G:h.Ns mainGlobals mg
A! kW(K:W.Frag)(x:Str)(v:Value):Prop:=W.nsIn K mainGlobals x=some (some v)
A! qg(K:W.Frag)(x:Str):Prop:=W.nsIn K mainGlobals x=some none
A! vo(K:W.Frag)(C:Addr)(x:Str)(b:String):Prop:=W.findIn K (.ref C) x=some (some (.builtin b))
A! vp(K:W.Frag)(C:Addr)(x:Str):Prop:=W.findIn K (.ref C) x=some none
D! cR(K:W.Frag)(x:Str)(st:Stmt):Prop:=∃f fd,cF K x x st f fd/\kW K x (.ref f)
D! nA(K:W.Frag)(C:Addr)(x qual:Str)(st:Stmt):Prop:=∃f fd,lH K x qual st .none f fd/\W.findIn K (.ref C) x=some (some (.ref f))/\W.isFn K (.ref f)=true
section
variable{P:Program}{w:World}{K:W.Frag}{mg:G!}{base h:Heap}{x qual:Str}{st:Stmt}{C:Addr}{k:Nat}{ps:List Str}{sp:Sp}
T! Wt.g{v:Value}(Y:Wt P w K mg base h)(e:kW K x v):mg x=some v:=W.mg_of Y.X Y.G e
T! Wt.n(Y:Wt P w K mg base h)(e:qg K x):mg x=none:=W.mg_none_of Y.X Y.G e
T! cR.mk{f:Addr}{oc:Value}{od an:Option Addr}{osl:Array (Option Value)}{kV doc pm cdv ct:Value}(a:W.nsIn K mainGlobals x=some (some (.ref f)))
    (l:K.lookup f=some \(oc,od,.func (W.fnOf x x (fV st) (d7 st) (bf st) .none kV doc pm an cdv ct),osl))(c:W.codeIn K cdv x=true)(k:W.keepIn K (.ref f)=true):cR K x st:=\(f,_,Rf l c k,a)
T! nA.mk{f:Addr}{oc:Value}{od an:Option Addr}{osl:Array (Option Value)}{kV doc pm cdv ct:Value}(a:W.findIn K (.ref C) x=some (some (.ref f)))(n:W.isFn K (.ref f)=true)
    (l:K.lookup f=some \(oc,od,.func (W.fnOf x qual (fV st) (d7 st) (bf st) .none kV doc pm an cdv ct),osl))(c:W.codeIn K cdv qual=true)(k:W.keepIn K (.ref f)=true):nA K C x qual st:=\(f,_,abl l c k,a,n)
T! cR.get(p:cR K x st)(Y:Wt P w K mg base h)(b:∀(kV doc pm:Value) (an:Option Addr) (cdv ct:Value) (us:List Value),us.length=ps.length->bindArgs (W.fnOf x x (fV st) (d7 st) (bf st) .none kV doc pm an cdv ct) \(us,[])=pure (ps.zip us)):
    ∃f fd,cF K x x st f fd/\Binds K fd ps []/\W.keepIn K (.ref f)=true/\mg x=some (.ref f):=let\(f,fd,F,a):=p;\(f,fd,F,F.binds b,F.kp,Y.g a)
T! cR.has(p:cR K x st)(Y:Wt P w K mg base h)(o:∀f fd,cF K x x st f fd->F! k f fd ps sp)
    (b:∀(kV doc pm:Value) (an:Option Addr) (cdv ct:Value) (us:List Value),us.length=ps.length->bindArgs (W.fnOf x x (fV st) (d7 st) (bf st) .none kV doc pm an cdv ct) \(us,[])=pure (ps.zip us)):
    H! k x ps sp:=let\(f,fd,F,b,k,m):=p.get Y b;\(f,fd,o f fd F,b,k,m)
T! nA.has(p:nA K C x qual st)(Y:Wt P w K mg base h)(o:∀f fd,lH K x qual st .none f fd->F! k f fd ps sp)
    (b:∀(kV doc pm:Value) (an:Option Addr) (cdv ct:Value) (us:List Value),us.length=ps.length->bindArgs (W.fnOf x qual (fV st) (d7 st) (bf st) .none kV doc pm an cdv ct) \(us,[])=pure (ps.zip us)):
    J! k C x ps [] sp:=let\(f,fd,F,a,n):=p;\(f,fd,[],[],o f fd F,F.binds b,.nil,λ_ _=>.nil,\(a,n,F.kp))
T! nA.ajF(p:nA K C "__init__" qual st)(Y:Wt P w K mg base h)(m:W.makesIn K C=true)(kp:W.keepIn K (.ref C)=true)(o:∀f fd,lH K "__init__" qual st .none f fd->F! k f fd ps sp)
    (b:∀(kV doc pm:Value) (an:Option Addr) (cdv ct:Value) (us:List Value),us.length=ps.length->bindArgs (W.fnOf "__init__" qual (fV st) (d7 st) (bf st) .none kV doc pm an cdv ct) \(us,[])=pure (ps.zip us)):
    tR P w K mg base k C ps sp:=let\(f,fd,F,a,n):=p;\(f,fd,o f fd F,F.binds b,\(m,a,n,kp))
T! _root_.L2.jG.u{j:Nat}(G:H! j x ps sp)(h:j<=k:=by first|decide|om):H! k x ps sp:=jG.up G h
T! xu.u{j:Nat}{dz:List D}(G:J! j C x ps dz sp)(h:j<=k:=by first|decide|om):J! k C x ps dz sp:=G.up h
T! tR.u{j:Nat}(G:tR P w K mg base j C ps sp)(h:j<=k:=by first|decide|om):tR P w K mg base k C ps sp:=G.up h
T! _root_.L2.fM.cl{f:Addr}{fd:FuncData}{n:Nat}{F:Z!}(h:F! k f fd ps (bD n K F)):F! k f fd ps (bu n K (λds=>clo (F (ds.map .d) []))):=fM.close h
end
end P2
namespace P2
open PySem L2
T! ahW{x qual:Str}{st:Stmt}{dV:Value}{ps:List Str}(hp:ps.length=0)(b:∀(kV doc pm:Value) (an:Option Addr) (cdv ct:Value),bindArgs (W.fnOf x qual (fV st) (d7 st) (bf st) dV kV doc pm an cdv ct) \([],[])=pure (ps.zip []))(kV doc pm:Value)(an:Option Addr)(cdv ct:Value)(us:List Value)(h:us.length=ps.length):bindArgs (W.fnOf x qual (fV st) (d7 st) (bf st) dV kV doc pm an cdv ct) \(us,[])=pure (ps.zip us):=by
 rw[hp]at h;cases us with
 |nil=>~b kV doc pm an cdv ct
 |cons u us=>simp at h
T! ahX{x qual:Str}{st:Stmt}{dV:Value}{ps:List Str}(hp:ps.length=1)(b:∀(kV doc pm:Value) (an:Option Addr) (cdv ct:Value) (u0:Value),bindArgs (W.fnOf x qual (fV st) (d7 st) (bf st) dV kV doc pm an cdv ct) \([u0],[])=pure (ps.zip [u0]))(kV doc pm:Value)(an:Option Addr)(cdv ct:Value)(us:List Value)(h:us.length=ps.length):bindArgs (W.fnOf x qual (fV st) (d7 st) (bf st) dV kV doc pm an cdv ct) \(us,[])=pure (ps.zip us):=by
 rw[hp]at h;cases us with
 |nil=>c! h
 |cons u0 us=>
  cases us with
  |nil=>~b kV doc pm an cdv ct u0
  |cons u us=>simp at h
T! ahY{x qual:Str}{st:Stmt}{dV:Value}{ps:List Str}(hp:ps.length=2)(b:∀(kV doc pm:Value) (an:Option Addr) (cdv ct:Value) (u0 u1:Value),bindArgs (W.fnOf x qual (fV st) (d7 st) (bf st) dV kV doc pm an cdv ct) \([u0,u1],[])=pure (ps.zip [u0,u1]))(kV doc pm:Value)(an:Option Addr)(cdv ct:Value)(us:List Value)(h:us.length=ps.length):bindArgs (W.fnOf x qual (fV st) (d7 st) (bf st) dV kV doc pm an cdv ct) \(us,[])=pure (ps.zip us):=by
 rw[hp]at h;cases us with
 |nil=>c! h
 |cons u0 us=>
  cases us with
  |nil=>c! h
  |cons u1 us=>
   cases us with
   |nil=>~b kV doc pm an cdv ct u0 u1
   |cons u us=>simp at h
T! ahZ{x qual:Str}{st:Stmt}{dV:Value}{ps:List Str}(hp:ps.length=3)(b:∀(kV doc pm:Value) (an:Option Addr) (cdv ct:Value) (u0 u1 u2:Value),bindArgs (W.fnOf x qual (fV st) (d7 st) (bf st) dV kV doc pm an cdv ct) \([u0,u1,u2],[])=pure (ps.zip [u0,u1,u2]))(kV doc pm:Value)(an:Option Addr)(cdv ct:Value)(us:List Value)(h:us.length=ps.length):bindArgs (W.fnOf x qual (fV st) (d7 st) (bf st) dV kV doc pm an cdv ct) \(us,[])=pure (ps.zip us):=by
 rw[hp]at h;cases us with
 |nil=>c! h
 |cons u0 us=>
  cases us with
  |nil=>c! h
  |cons u1 us=>
   cases us with
   |nil=>c! h
   |cons u2 us=>
    cases us with
    |nil=>~b kV doc pm an cdv ct u0 u1 u2
    |cons u us=>simp at h
T! ah0{x qual:Str}{st:Stmt}{dV:Value}{ps:List Str}(hp:ps.length=4)(b:∀(kV doc pm:Value) (an:Option Addr) (cdv ct:Value) (u0 u1 u2 u3:Value),bindArgs (W.fnOf x qual (fV st) (d7 st) (bf st) dV kV doc pm an cdv ct) \([u0,u1,u2,u3],[])=pure (ps.zip [u0,u1,u2,u3]))(kV doc pm:Value)(an:Option Addr)(cdv ct:Value)(us:List Value)(h:us.length=ps.length):bindArgs (W.fnOf x qual (fV st) (d7 st) (bf st) dV kV doc pm an cdv ct) \(us,[])=pure (ps.zip us):=by
 rw[hp]at h;cases us with
 |nil=>c! h
 |cons u0 us=>
  cases us with
  |nil=>c! h
  |cons u1 us=>
   cases us with
   |nil=>c! h
   |cons u2 us=>
    cases us with
    |nil=>c! h
    |cons u3 us=>
     cases us with
     |nil=>~b kV doc pm an cdv ct u0 u1 u2 u3
     |cons u us=>simp at h
T! ah1{x qual:Str}{st:Stmt}{dV:Value}{ps:List Str}(hp:ps.length=5)(b:∀(kV doc pm:Value) (an:Option Addr) (cdv ct:Value) (u0 u1 u2 u3 u4:Value),bindArgs (W.fnOf x qual (fV st) (d7 st) (bf st) dV kV doc pm an cdv ct) \([u0,u1,u2,u3,u4],[])=pure (ps.zip [u0,u1,u2,u3,u4]))(kV doc pm:Value)(an:Option Addr)(cdv ct:Value)(us:List Value)(h:us.length=ps.length):bindArgs (W.fnOf x qual (fV st) (d7 st) (bf st) dV kV doc pm an cdv ct) \(us,[])=pure (ps.zip us):=by
 rw[hp]at h;cases us with
 |nil=>c! h
 |cons u0 us=>
  cases us with
  |nil=>c! h
  |cons u1 us=>
   cases us with
   |nil=>c! h
   |cons u2 us=>
    cases us with
    |nil=>c! h
    |cons u3 us=>
     cases us with
     |nil=>c! h
     |cons u4 us=>
      cases us with
      |nil=>~b kV doc pm an cdv ct u0 u1 u2 u3 u4
      |cons u us=>simp at h
T! ah2{x qual:Str}{st:Stmt}{dV:Value}{ps:List Str}(hp:ps.length=6)(b:∀(kV doc pm:Value) (an:Option Addr) (cdv ct:Value) (u0 u1 u2 u3 u4 u5:Value),bindArgs (W.fnOf x qual (fV st) (d7 st) (bf st) dV kV doc pm an cdv ct) \([u0,u1,u2,u3,u4,u5],[])=pure (ps.zip [u0,u1,u2,u3,u4,u5]))(kV doc pm:Value)(an:Option Addr)(cdv ct:Value)(us:List Value)(h:us.length=ps.length):bindArgs (W.fnOf x qual (fV st) (d7 st) (bf st) dV kV doc pm an cdv ct) \(us,[])=pure (ps.zip us):=by
 rw[hp]at h;cases us with
 |nil=>c! h
 |cons u0 us=>
  cases us with
  |nil=>c! h
  |cons u1 us=>
   cases us with
   |nil=>c! h
   |cons u2 us=>
    cases us with
    |nil=>c! h
    |cons u3 us=>
     cases us with
     |nil=>c! h
     |cons u4 us=>
      cases us with
      |nil=>c! h
      |cons u5 us=>
       cases us with
       |nil=>~b kV doc pm an cdv ct u0 u1 u2 u3 u4 u5
       |cons u us=>simp at h
end P2
macro "b!0" : term => `(P2.ahW rfl fun _ _ _ _ _ _ => rfl)
macro "b!1" : term => `(P2.ahX rfl fun _ _ _ _ _ _ _ => rfl)
macro "b!2" : term => `(P2.ahY rfl fun _ _ _ _ _ _ _ _ => rfl)
macro "b!3" : term => `(P2.ahZ rfl fun _ _ _ _ _ _ _ _ _ => rfl)
macro "b!4" : term => `(P2.ah0 rfl fun _ _ _ _ _ _ _ _ _ _ => rfl)
macro "b!5" : term => `(P2.ah1 rfl fun _ _ _ _ _ _ _ _ _ _ _ => rfl)
macro "b!6" : term => `(P2.ah2 rfl fun _ _ _ _ _ _ _ _ _ _ _ _ => rfl)
macro "kdn" : tactic => `(tactic| exact P2.cR.mk (by k_is) (by k_is) (by k_is) (by k_is))
macro "kdm" : tactic => `(tactic| exact P2.nA.mk (by k_is) (by k_is) (by k_is) (by k_is) (by k_is))
macro "kre" : tactic => `(tactic| (show _ = _; k_is))
namespace mQ
open PySem L2 P2 WP WR WC WS TM T2 PySem.NumText
A! V4:Stmt:=inClass (at_ 3) 0
T! apH:b7 ["self","row"] ["self","row"] (bf V4):=\(rfl,rfl,rfl,by decide+kernel,rfl,by decide+kernel,by decide+kernel)
A! fo(x q:Str)(st:Stmt)(dV kV doc pm:Value)(an:Option Addr)(cdv ct:Value):FuncData:=PySem.W.fnOf x q (fV st) (d7 st) (bf st) dV kV doc pm an cdv ct
D! W8(K:PySem.W.Frag):Sp:=λvs H Q E=>∃(al:Addr->Prop) (ns:List Int),vs.length=1/\(∀a,H a=none->al a)/\ns.length<=63/\bz K al H vs [.lst (ns.map D.int)]/\jZ K H/\∀H',gr K H H'->Q (.bl true) H'
T! VF{K:PySem.W.Frag}{al:Addr->Prop}{H:Hp}:∀ns:List Int,bz K al H (ns.map V.int) (ns.map D.int)
 |[]=>.nil
 |_::ns=>.cons (.int _) (VF ns)
T! aqq{K:PySem.W.Frag}{H:Hp}{a:Addr}{ns:List Int}(hl:ns.length<=63)(tt:jZ K H)(r:Rep K (λ_=>True) H (.ref a) (.lst (ns.map D.int))):W8 K [.ref a] H (λv _=>v=.bl true) λ_ _ _=>False:=
 \(λ_=>True,ns,rfl,λ_ _=>trivial,hl,.cons r .nil,tt,λ_ _=>rfl)
D! isF(K:PySem.W.Frag)(cs:List Addr)(c:Addr)(u:Value):Option Bool:=if c∈cs then PySem.W.kitOne K (.ref c) u else none
T! ako{K:PySem.W.Frag}{cs:List Addr}(h:∀c∈cs,rG K c):Dm K (isF K cs):=λc u b e=>by
 u! isF at e;split at e;·rename_i z;~\(h c z,e)
 ·c! e
T! akn{K:PySem.W.Frag}{cs:List Addr}{c:Addr}{u:Value}{b:Option Bool}(h:PySem.W.kitOne K (.ref c) u=b)(hc:c∈cs):isF K cs c u=b:=by u! isF;rw[if_pos hc];~h
section
variable(a:Ad)
A! ag9:R!:=λds=>aL (Kf a (aM 2 ds))
A! aho:Z!:=λzs S=>bw (v5 a (ag9 a) S.length (bG 2 zs) S)
A! vG:Z!:=λzs S=>bw (FQ a S.length (bG 3 zs) S)
A! Dq:Z!:=λzs S=>bw (xV a (vG a) S.length (bG 2 zs) S)
A! zg:Z!:=λzs S=>bw (xU a (Dq a) S.length (bG 2 zs) S)
A! ahp:Z!:=λzs S=>bw (FZ a (vG a) S.length (bG 1 zs) S)
A! xA:Z!:=λzs S=>bw (FT a S.length (bG 1 zs) S)
A! ZL:Z!:=λzs S=>bw (FW a (zg a) S.length (bG 2 zs) S)
A! ZM:Z!:=λzs S=>bw (Ga a (zg a) S.length (bG 2 zs) S)
A! ag7:R!:=λds=>aL (Ke a (aM 1 ds))
A! O4:R!:=λds=>aL (Ka a (ag7 a) (aM 2 ds))
A! ZF:R!:=λds=>aL (KR a (O4 a) (aM 4 ds))
A! ag3:R!:=λds=>aL (J3 a (aM 3 ds))
A! ag5:R!:=λds=>aL (Kc a (aM 1 ds))
A! ag4:R!:=λds=>aL (J4 a (ag5 a) (ag3 a) (aM 3 ds))
A! Zq:R!:=λds=>aL (Et a (aM 3 ds))
A! ZD:R!:=λds=>aL (KN a (O4 a) (ag4 a) (Zq a) (aM 6 ds))
A! O9:R!:=λds=>aL (KQ a (ZD a) (aM 2 ds))
A! ag6:R!:=λds=>aL (Kd a (aM 1 ds))
A! ZJ:R!:=λds=>aL (KY a (ag6 a) (aM 1 ds))
D! oV:Nat->(Z!)×(Z!)×(Z!)×(Z!)
 |0=>(λ_ _=>.bad,λ_ _=>.bad,λ_ _=>.bad,λ_ _=>.bad)
 |n+1=>(λzs S=>bw (FN a (oV n).2.1 (vG a) (Dq a) (xA a) S.length (bG 3 zs) S),λzs S=>bw (Fz a (O9 a) (vG a) (oV n).2.2.1 (Dq a) (zg a) (xA a) S.length (bG 2 zs) S),λzs S=>bw (FJ a (ZF a) (ZJ a) (O9 a) (vG a) (oV n).2.2.2 (xA a) (Dq a) S.length (bG 2 zs) S),λzs S=>bw (Ez a (ZL a) (oV n).1 (ZM a) S.length (bG 2 zs) S))
A! ahm:Z!:=(oV a 75).1
A! ahk:Z!:=λzs S=>bw (EY a (xA a) (ahm a) (Dq a) S.length (bG 3 zs) S)
D! qy:Nat->(Z!)×(Z!)×(Z!)
 |0=>(λ_ _=>.bad,λ_ _=>.bad,λ_ _=>.bad)
 |n+1=>(λzs S=>bw (Fy a (qy n).2.1 (vG a) (zg a) (xA a) S.length (bG 2 zs) S),λzs S=>bw (Ey a (qy n).2.2 (vG a) (zg a) (xA a) S.length (bG 2 zs) S),λzs S=>bw (Fe a (vG a) (zg a) (xA a) (qy n).2.2 (ZL a) (qy n).1 (ZM a) (ahk a) S.length (bG 2 zs) S))
A! ahl:Z!:=(qy a 85).1
A! ahn:Z!:=λzs S=>bw (FP a (ahl a) (ahp a) S.length (bG 2 zs) S)
A! ahv:Z!:=λzs S=>bw (Fd a (aho a) (ahn a) S.length (bG 1 zs) S)
A! ZC:R!:=λds=>clo (ahv a (ds.map .d) [])
A! Zo:R!:=λds=>aL (Er a (aM 3 ds))
A! ahr(Fs:R!):R!:=λds=>aL (Eu a Fs (aM 3 ds))
A! ZQ(Fs:R!):R!:=λds=>aL (jO a (ahr a Fs) Fs (Zo a) (Zq a) (aM 4 ds))
A! Zr:R!:=j7 (ZQ a) 32
A! ahq(Fs:R!):R!:=λds=>aL (Es a Fs (aM 3 ds))
A! ZP(Fs:R!):R!:=λds=>aL (mW a (ahq a Fs) Fs (Zo a) (Zr a) (aM 2 ds))
A! ag8:R!:=j7 (ZP a) 32
A! aha:R!:=λds=>aL (Ew a (aM 2 ds))
A! ahd:R!:=λds=>aL (Kr a (aM 5 ds))
A! O6:R!:=λds=>aL (Am a (ahd a) (aM 1 ds))
A! ahe:R!:=λds=>aL (Ks a (aM 4 ds))
A! O8:R!:=λds=>aL (Kz a (aM 2 ds))
A! Zw:R!:=λds=>aL (xQ a (O6 a) (O8 a) (ahe a) (aM 7 ds))
A! Dn:R!:=λds=>aL (Kw a (aM 3 ds))
A! Zz:R!:=λds=>aL (KH a (Dn a) (aM 4 ds))
A! Zy:R!:=λds=>aL (Ex a (O6 a) (O8 a) (Dn a) (aM 3 ds))
A! O5:R!:=λds=>aL (Kh a (aM 3 ds))
A! O7:R!:=λds=>aL (Kq a (Dn a) (aM 5 ds))
A! Zv:R!:=λds=>aL (Km a (Dn a) (aM 1 ds))
A! ahh:R!:=λds=>aL (Ky a (aM 3 ds))
A! ahi:Z!:=λzs S=>bw (KC a (Zz a) (Zy a) (O5 a) (Zv a) (O7 a) (Zw a) S.length (bG 7 zs) S)
A! ahc:Z!:=λzs S=>bw (Ko a (O5 a) (O7 a) S.length (bG 6 zs) S)
A! aht:Z!:=λzs S=>bw (Kl a (ahh a) (ahi a) (ahc a) S.length (bG 7 zs) S)
A! ahb:R!:=λds=>clo (aht a (ds.map .d) [])
A! ZR(Fs:R!):R!:=λds=>aL (gm a Fs (aM 2 ds))
A! Zu:R!:=j7 (ZR a) 60
A! ahj:R!:=λds=>aL (KD a (aM 4 ds))
A! ahu:Z!:=λzs S=>bw (Kv a S.length (bG 4 zs) S)
A! ahg:R!:=λds=>clo (ahu a (ds.map .d) [])
A! ahf:R!:=λds=>aL (Ku a (ZC a) (Zu a) (aM 5 ds))
T! acO(z:Str)(k:Nat)(hz:z.length<=1000000):O4 a [.str z,.int k]=.ok (.bl (iy (az z) k)):=ak3 (λz hz=>ale z hz) z k hz
T! rdF(z:Str)(hz:z.length<=1000):ZD a [.str z]=outF a (T2.oA (az z)):=
 alh (λz k hz=>acO a z k hz) (λt b hb h=>akZ (λi=>alu i) (λx y hx hy h=>ak1 x y hx hy h) t b hb h) (λt b hb h1 h2=>SQ t b hb h1 h2) z hz
T! smM(t:Tk)(ht:t.length<=1000):O9 a [tS t]=outF a (pQ t):=alo (λz hz=>rdF a z hz) t ht
T! whM(t:Tk)(ht:t.length<=1000):ZF a [tS t,.int 1,.int 9]=uG a (wW t 1 9):=by
 h!:=alj (a:=a) (λz k hz=>acO a z k hz) (aq t) 1 9 (by rw[qK];om) d?;rw[lZ]at this;~this
T! woM(t:Tk)(ht:t.length<=1000):ZJ a [tS t]=G8 a (aq t):=alm (λz hz=>ak4 z hz) (aq t) (by rw[qK];om)
T! ajh{T:List Tk}(O:jf T)(hl:∀t∈T,t.length<=1000):∀n:Nat,eU a T (oV a n).1 (f0 n).su/\eU a T (oV a n).2.1 (f0 n).pr/\eU a T (oV a n).2.2.1 (f0 n).sg/\eU a T (oV a n).2.2.2 (f0 n).br:=by
 intro n;induction n with
 |zero=>~\(λ_ _ _=>trivial,λ_ _ _=>trivial,λ_ _ _=>trivial,λ_ _ _=>trivial)
 |succ n ih=>
  o!⟨h1,h2,h3,h4⟩:=ih;~\(apF O h2,apD O (λt ht=>smM a t (hl t ht)) h3,apE O (λt ht=>whM a t (hl t ht)) (λt ht=>woM a t (hl t ht)) (λt ht=>smM a t (hl t ht)) h4,apz O h1)
T! aji{T:List Tk}(O:jf T)(hl:∀t∈T,t.length<=1000):∀n:Nat,eU a T (qy a n).1 (f1 n).or/\eU a T (qy a n).2.1 (f1 n).and/\eU a T (qy a n).2.2 (f1 n).not:=by
 intro n;induction n with
 |zero=>~\(λ_ _ _=>trivial,λ_ _ _=>trivial,λ_ _ _=>trivial)
 |succ n ih=>
  o!⟨h1,h2,h3⟩:=ih;~\(apC O h2,apy O h3,apB O h3 h1 (apA O (ajh a O hl 75).1))
T! aio(ns:List Int)(k:Nat):aha a [.lst (ns.map .int),.int k]=.ok (.int (ns.getD k 0)):=WP.akT (a:=a) ns k
T! abh(c:Int):∃p q,Fq p q/\O6 a [.int c]=.ok (WC.pr p q):=ak0 (λt b h1 h2 h3=>ala t b h1 h2 h3) c
T! acq(p q:Int)(h:Fq p q):O8 a [WC.pr p q]=.ok (.str (aq (cB p q))):=aln h
T! MF:Dt (Dn a):=λd x r n o c h=>alg h
T! abf:Oz (Zz a) (Zy a) (O5 a) (Zv a) (O7 a) (Zw a) where
 su:=λx y s h1 h2=>alb (MF a) h1 h2
 ov:=λx c hx h=>ak9 (abh a) (acq a) (MF a) hx h c
 co:=λx y s h1 h2=>akU h1 h2
 de:=λx h=>akW (MF a) h
 jo:=λx y s h1 h2=>ak8 (MF a) h1 h2
 le:=λh c=>ak7 (abh a) (acq a) (λc k=>alc c k) h c
T! aix(h:Int)(ns:List Int)(w:Bool):∃c:Cn,(c.Ok/\gQ c<=3)/\c.sz<=30/\ahb a [.int h,.lst (ns.map .int),.str (cw w)]=.ok (bc c):=
 ak6 (λt c=>ali t c) (λts cs p o c h I h1 h2=>alq (abf a) I h1 h2 c h _) (λts cs p o w I=>akY (abf a) I w _) h ns w _
T! shM(c:Cn)(h:c.Ok)(hz:c.sz<=30):ag8 a [c.d]=.ok (.str (aq c.tx)):=
 Cp (a:=a) (Ft:=Zr a) (m:=30) (λt tO tz=>HF t tO o? 32 (Nat.le_trans t.QS o?)) c h o? (Nat.le_trans c.aru hz) 32 (Nat.le_trans c.QS o?)
T! rcM:Pj a (ZC a):=λcs h1 h2 h3=>akV (a:=a) (T:=bQ cs) (alp cs h1) (s_end (afO h1 h2) (aji a (afO h1 h2) h3 85).1)
T! Z5:Ou (Zu a):=λx y hy=>ahA x y hy
T! stM(cs:List Nat)(n:Int)(h:cs.length<=5000):ahj a [tS cs,.int n]=.ok (tS (mF cs n)):=alr cs n h
T! neM(mt:wy a.d9 a.NoText a.NoText=true)(c:Cn)(h:c.Ok)(hz:c.sz<=30)(p:Nat×Nat)(hp:p.1<p.2/\p.2<c.tx.length/\(∃x,c.tx[p.1]?=some x/\dM x=true)/\∃x,c.tx[p.2]?=some x/\isC x=true):ahf a [tS c.tx,pairD p,c.d]=.ok (.bl true):=ald (rcM a) (Z5 a) mt h hz hp
T! prM(cs:List Nat)(hl:cs.length<=5000)(dy:Dy cs):∃qs:List (Nat×Nat),(∀p∈qs,p.1<p.2/\p.2<cs.length/\(∃c,cs[p.1]?=some c/\dM c=true)/\∃c,cs[p.2]?=some c/\isC c=true)/\qs.length<=cs.length/\ahg a [tS cs]=.ok (.lst (qs.map pairD)):=alf hl dy
end
T! all_mk{l:PySem.W.OpenLaw}{w:World}{K:PySem.W.Frag}{h:Heap}{mg:G!}{fa f3 Q7 tL tK lD jx jm aab:Addr}(X:K.In h)(G:h.Ns mainGlobals mg)(hfa:mg "law"=some (.ref fa))
    {od3 an3 amb Z8 amc ahF:Option Addr}{sl3 aqe aqf:Array (Option Value)}{oc3 kV3 dc3 pm3 cd3 ct3 al9 abZ aaN adi Qq aaL ama akx aiK aoi aaC aiA:Value}
    {dT3:Addr}{dd3:Option Addr}{dn3:Nat}{ds3:Array (Option Value)}{aaW aq7 arb arh aq6 aq9 arc arf ard ara aq8:Tok}
    {aiZ:Option Addr}{aqt:Array (Option Value)}{alX:Nat}{afX afY af1 af2 af3 af4 af5 af6 af7 af8 afZ af0:Tok}
    (p1:cR K "split_row" Wf)
    (Tr:cR K "only_figures" V9)
    (Tt:cR K "is_number" V5)
    (Tu:cR K "read_whole" Xm)
    (Tv:cR K "common_divisor" V2)
    (Tw:cR K "is_whole" V6)
    (Tz:cR K "fraction" V3)
    (TF:cR K "show_fraction" Wc)
    (TJ:cR K "read_fraction" Xe)
    (TQ:cR K "read_small_fraction" Xj)
    (TV:cR K "is_word" V7)
    (TY:cR K "read_word" Xn)
    (T3:cR K "read_sum" Xk)
    (T5:cR K "read_product" Xh)
    (T6:cR K "read_single" Xi)
    (T7:cR K "read_bracketed" Xb)
    (T8:cR K "read_comparison" Xc)
    (T9:cR K "read_or" Xg)
    (Ua:cR K "read_and" Xa)
    (Ub:cR K "read_not" Xf)
    (Uc:cR K "read_to_end" Xl)
    (Ud:cR K "read_condition" Xd)
    (Ue:cR K "joined" V8)
    (Ug:cR K "show_tight" We)
    (Uh:cR K "show_term" Wd)
    (Ui:cR K "show_bound" Wa)
    (Uj:cR K "show_condition" Wb)
    (Uk:cR K "_law_cell_at" Wy)
    (Ul:cR K "_law_lowest" WT)
    (Um:cR K "_law_fraction" WM)
    (Uo:cR K "_law_mast" WW)
    (Up:cR K "_law_show" W4)
    (Ur:cR K "_law_leaf" WQ)
    (Us:cR K "_law_put" W2)
    (Ut:cR K "_law_sum" W7)
    (Uu:cR K "_law_over_term" WY)
    (Uv:cR K "_law_compared" Wz)
    (Uw:cR K "_law_joined" WN)
    (Ux:cR K "_law_denied" WK)
    (Uy:cR K "_law_rest" W3)
    (Uz:cR K "_law_step" W5)
    (UG:cR K "_law_ended" WL)
    (UJ:cR K "_law_condition" WD)
    (UL:cR K "_law_alike" Wx)
    (UT:cR K "_law_strewn" W6)
    (UW:cR K "_law_pairs" W0)
    (U0:cR K "_law_needed" WX)
    (a56:kW K "law" (.ref Q7))
    (Ss:K.lookup Q7=some \(al9,amb,.func (fo "law" "law" yJ .none abZ aaN adi Z8 Qq aaL),aqe))(Qk:PySem.W.codeIn K Qq "law"=true)(R7:PySem.W.keepIn K (.ref Q7)=true)
    (PB:kW K "WeatherError" (.ref tL))
    (Px:kW K "NoFraction" (.ref tK))
    (Py:kW K "NoText" (.ref lD))
    (Pz:kW K "Tokens" (.ref jx))
    (abO:PySem.W.findIn K (.ref lD) "__init__"=some (some (.ref jm)))
    (Su:K.lookup jm=some \(ama,amc,.func (fo "__init__" "NoText.__init__" V4 .none akx aiK aoi ahF aaC aiA),aqf))(Ql:PySem.W.codeIn K aaC "NoText.__init__"=true)(R8:PySem.W.keepIn K (.ref jm)=true)
    (Yk:JX K lD jm [.type "ValueError",.type "Exception",.type "BaseException",.type "object"] "ValueError.__new__"=true)(Yl:PySem.W.isFn K (.ref jm)=true)(Ym:PySem.W.keepIn K (.ref lD)=true)(Yn:vo K lD "__setattr__" "object.__setattr__")(Yo:vo K lD "__getattribute__" "BaseException.__getattribute__")(Yp:vp K lD "__getattr__")(Yq:vp K lD "row")
    (Qu:PySem.W.plainGet K jx Str.empty=true)(Qv:PySem.W.hasDictIn K jx=true)(Qw:PySem.W.plainOver K jx=true)(Qx:vo K jx "__setattr__" "object.__setattr__")(Qy:PySem.W.makesIn K jx=true)(Qz:PySem.W.keepIn K (.ref jx)=true)
    (QF:vp K jx "tokens")
    (QD:vp K jx "place")
    (QC:vp K jx "parts")
    (QB:vp K jx "brackets")
    (p2:nA K jx "__init__" "Tokens.__init__" Xq)
    (a3:PySem.W.findIn K (.ref jx) "ahead"=some (some (.ref f3)))(n3:PySem.W.isFn K (.ref f3)=true)
    (l3:K.lookup f3=some \(oc3,od3,.func (fo "ahead" "Tokens.ahead" Nv (.ref dT3) kV3 dc3 pm3 an3 cd3 ct3),sl3))(c3:PySem.W.codeIn K cd3 "Tokens.ahead"=true)(k3:PySem.W.keepIn K (.ref f3)=true)
    (d3:K.lookup dT3=some \(.type "tuple",dd3,.seq #[.int 0 aaW] dn3,ds3))
    (p4:nA K jx "take" "Tokens.take" Xy)
    (p5:nA K jx "expect" "Tokens.expect" Xv)
    (p6:nA K jx "expect_end" "Tokens.expect_end" Xw)
    (p7:nA K jx "begin_part" "Tokens.begin_part" Xr)
    (p8:nA K jx "enter" "Tokens.enter" Xu)
    (p9:nA K jx "leave" "Tokens.leave" Xx)
    (YL:PySem.W.excIn K tL [.type "ValueError",.type "Exception",.type "BaseException",.type "object"] "ValueError.__new__"=true)(YW:PySem.W.keepIn K (.ref tL)=true)(YS:vo K tL "__getattribute__" "BaseException.__getattribute__")(YZ:vp K tL "__getattr__")
    (YK:PySem.W.excIn K tK [.type "ValueError",.type "Exception",.type "BaseException",.type "object"] "ValueError.__new__"=true)(YT:PySem.W.keepIn K (.ref tK)=true)(YQ:vo K tK "__getattribute__" "BaseException.__getattribute__")(YX:vp K tK "__getattr__")
    (YH:vo K tK "__class__" "object.__class__")
    (Ol:vo K lD "__class__" "object.__class__")
    (YJ:vo K tL "__class__" "object.__class__")
    (U7:PySem.W.kitOne K (.ref lD) (.ref lD)=some true)
    (Ab:kW K "FIGURES" (.str "0123456789" aq7))
    (Ah:kW K "MOST_FIGURES" (.int 60 arb))
    (Al:kW K "TOP_BOUND" (.int 1000000000 arh))
    (Aa:kW K "BOTTOM_BOUND" (.int 1000000 aq6))
    (Af:kW K "LETTERS" (.str "abcdefghijklmnopqrstuvwxyz" aq9))
    (Ai:kW K "MOST_LETTERS" (.int 8 arc))
    (Ak:kW K "RUN_SIGNS" (.str "abcdefghijklmnopqrstuvwxyz0123456789/" arf))
    (Aj:kW K "MOST_PARTS" (.int 30 ard))
    (Ag:kW K "MOST_BRACKETS" (.int 16 ara))
    (Ae:kW K "LAST_PLACE" (.int 9 aq8))
    (Ac:kW K "KEY_WORDS" (.ref aab))
    (SJ:K.lookup aab=some \(.type "tuple",aiZ,.seq #[.str "mark" afX,.str "fill" afY,.str "here" af1,.str "back" af2,.str "on" af3,.str "at" af4,.str "ago" af5,.str "until" af6,.str "abs" af7,.str "and" af8,.str "or" afZ,.str "not" af0] alX,aqt))
    (Yu:qg K "abs")(Yv:qg K "all")(Yx:qg K "bool")(Yy:qg K "int")(Yz:qg K "isinstance")(YB:qg K "len")(YC:qg K "max")(YD:qg K "range")(YF:qg K "str")(YG:qg K "tuple"):
    ∃fd:FuncData,(∀(s:Shared) (v:Value),BindsTo s fd \([v],[]) [("_law_script",v)])/\∀base:Heap,K.In base->base.Ns mainGlobals mg->BM mg base->fM l.prog w K mg base (eE l.prog w) 170 fa fd ["_law_script"] (W8 K):=by
 h! e:=hfa.symm.trans (PySem.W.mg_of X G a56);c! e;h! Pu:vI K lD jm "row":=\(Yk,Yl,Ym,Yn,Yo,Yp,Yq);h! ZZ:zp K tL:=\(YL,YW,YS,YZ,YJ);h! ahw:zp K tK:=\(YK,YT,YQ,YX,YH);h! IS:Dm K (isF K [lD]):=ako λc hc=>by
  S![List.mem_cons,List.not_mem_nil,or_false]at hc;rcases hc with rfl;·~Pu.y Ol
 h! W:Wt l.prog w K mg h h:=\(X,G);obtain⟨a,ea⟩:∃a:Ad,a={WeatherError:=tL,NoFraction:=tK,NoText:=lD,Tokens:=jx,jm:=jm,d9:=isF K [lD]}:=\(_,rfl);h! T:Tx K mg a:=by
  subst ea;~{Jt:=W.n Yu,DR:=W.n Yv,Qa:=W.n Yx,tZ:=W.n Yy,qp:=W.n Yz,gU:=W.n YB,Ju:=W.n YC,Jv:=W.n YD,rK:=W.n YF,Qc:=W.n YG,Ab:=.str (W.g Ab),Ah:=.int (W.g Ah),Al:=.int (W.g Al),Aa:=.int (W.g Aa),Af:=.str (W.g Af),Ai:=.int (W.g Ai),Ak:=.str (W.g Ak),Aj:=.int (W.g Aj),Ag:=.int (W.g Ag),Ae:=.int (W.g Ae),Ac:=Dj.strs (l:=[("mark",afX),("fill",afY),("here",af1),("back",af2),("on",af3),("at",af4),("ago",af5),("until",af6),("abs",af7),("and",af8),("or",afZ),("not",af0)]) (W.g Ac) SJ (by show 12<=sizeLine;decide),ah5:=W.g PB,aat:=W.g Px,mV:=W.g Py,aau:=W.g Pz,mZ:=Pu,arY:=ZZ,agN:=ahw,agM:=Pu.y Ol,arX:=ZZ.y,dh:=\(Qu,Qv,Qw,Qx),Mh:=QF,Mg:=QD,Mf:=QC,GF:=QB,pK:=IS}
 h! ei:a.d9=isF K [lD]:=by rw[ea]
 h! ai7:a.WeatherError=tL:=by rw[ea]
 h! ai4:a.NoFraction=tK:=by rw[ea]
 h! ai5:a.NoText=lD:=by rw[ea]
 h! ai6:a.Tokens=jx:=by rw[ea]
 h! ai8:a.jm=jm:=by rw[ea]
 clear ea;subst ai7;subst ai4;subst ai5;subst ai6;subst ai8;h! F3:=abl (st:=Nv) l3 c3 k3;h! ahN:=F3.aao (ps:=["self","places"]) (ds:=[]) d3 rfl λ_ _ _ _ _ _ us hl=>match us,hl with|[_,_],_=>\(_,rfl,rfl)
 h! ahO:=F3.aao (ps:=["self","places"]) (ds:=[.int 0 aaW]) d3 rfl λ_ _ _ _ _ _ us hl=>match us,hl with|[_],_=>\(_,rfl,rfl)
 h! F56:=Rf (st:=yJ) Ss Qk R7;h! Y5:=Rf (st:=V4) Su Ql R8;h! rJ:=Y5.binds (ps:=["self","row"]) λ_ _ _ _ _ _ us hl=>match us,hl with|[_,_],_=>rfl
 r!\(PySem.W.fnOf "law" "law" (fV yJ) (d7 yJ) (bf yJ) .none abZ aaN adi Z8 Qq aaL,λs v=>.of_eq rfl,λbase _ _ bm=>?_);h! W:Wt l.prog w K mg base h:=\(X,G);h! rF:=amv (P:=l.prog) (w:=w) (mg:=mg) (base:=base) (k:=0) (body:=[]) T.mZ Y5 apH rfl rfl rfl rfl rfl;h! H1:=p1.has W (λ_ _ F=>amu T F) b!1;h! HI2:=p2.ajF W Qy Qz (λ_ _ F=>am4 T F H1.u) b!2;h! o3:=am5 (P:=l.prog) (w:=w) (base:=base) T F3;h! ag1:xu _ _ _ _ _ _ _ _ _ [] _:=\(f3,_,_,[],o3,ahN,.nil,λ_ _=>.nil,\(a3,n3,k3));h! xn:xu _ _ _ _ _ _ _ _ _ [.int 0] _:=\(f3,_,_,[.int 0],o3,ahO,(.cons \(_,rfl) .nil),λ_ _=>(.cons (.int _) .nil),\(a3,n3,k3));h! Dl:=p4.has W (λ_ _ F=>anb T F rF rJ xn.u) b!1;h! zc:=p5.has W (λ_ _ F=>am8 T F rF rJ Dl.u) b!2;h! HM6:=p6.has W (λ_ _ F=>am9 T F rF rJ xn.u) b!1;h! xq:=p7.has W (λ_ _ F=>am6 T F rF rJ) b!1;h! Zi:=p8.has W (λ_ _ F=>am7 T F rF rJ zc.u) b!2;h! Zj:=p9.has W (λ_ _ F=>ana T F zc.u) b!2;h! OD:=Tr.has W (λ_ _ F=>amn T F) b!1;h! Jc:=Tt.has W (λ_ _ F=>amh T F OD.u) b!2;h! Jd:=Tu.has W (λ_ _ F=>am2 T F rF rJ Jc.u) b!3;h! H13:=Tv.has W (λ_ _ F=>amf T F) b!2;h! H14:=Tw.has W (λ_ _ F=>ami T F) b!1;h! H15:=Tz.has W (λ_ _ F=>amg T F H14.u H13.u) b!2;h! Y6:=TF.has W (λ_ _ F=>amr T F) b!1;h! H17:=TJ.has W (λ_ _ F=>amU T F rF rJ Jc.u H15.u Y6.u) b!1;h! Y7:=TQ.has W (λ_ _ F=>amZ T F rF rJ H17.u) b!1;h! H19:=TV.has W (λ_ _ F=>amj T F) b!1;h! H20:=TY.has W (λ_ _ F=>am3 T F rF rJ H19.u) b!1;o!⟨f21,_,F21,b21,k21,m21⟩:=T3.get W (ps:=["tokens"]) b!1;o!⟨f22,_,F22,b22,k22,m22⟩:=T5.get W (ps:=["tokens"]) b!1;o!⟨f23,_,F23,b23,k23,m23⟩:=T6.get W (ps:=["tokens"]) b!1;o!⟨f24,_,F24,b24,k24,m24⟩:=T7.get W (ps:=["tokens"]) b!1;h! Fa0:∀n:Nat,jG l.prog w K mg base (eE l.prog w) (5+n) "read_sum" ["tokens"] (bD 1 K (oV a n).1)/\jG l.prog w K mg base (eE l.prog w) (5+n) "read_product" ["tokens"] (bD 1 K (oV a n).2.1)/\jG l.prog w K mg base (eE l.prog w) (5+n) "read_single" ["tokens"] (bD 1 K (oV a n).2.2.1)/\jG l.prog w K mg base (eE l.prog w) (5+n) "read_bracketed" ["tokens"] (bD 1 K (oV a n).2.2.2):=by
  intro n;induction n with
  |zero=>~\(\(_,_,xO,b21,k21,m21),\(_,_,xO,b22,k22,m22),\(_,_,xO,b23,k23,m23),\(_,_,xO,b24,k24,m24))
  |succ n ih=>
   o!⟨J21,J22,J23,J24⟩:=ih;h! q21:=am0 (P:=l.prog) (w:=w) (base:=base) (k:=5+n) T F21 J22 xn.u Dl.u xq.u;h! q22:=amX (P:=l.prog) (w:=w) (base:=base) (k:=5+n) T F22 Y7.u J23 ag1.u Dl.u zc.u xq.u;h! q23:=amY (P:=l.prog) (w:=w) (base:=base) (k:=5+n) T F23 Jd.u H20.u Y7.u J24 xn.u xq.u Dl.u;h! q24:=amR (P:=l.prog) (w:=w) (base:=base) (k:=5+n) T F24 J21 Zi.u Zj.u;~\(\(_,_,q21,b21,k21,m21),\(_,_,q22,b22,k22,m22),\(_,_,q23,b23,k23,m23),\(_,_,q24,b24,k24,m24))
 o!⟨H21,H22,H23,H24⟩:=Fa0 75;h! H25:=T8.has W (λ_ _ F=>amS T F rF rJ H21.u xq.u Dl.u) b!1;o!⟨f26,_,F26,b26,k26,m26⟩:=T9.get W (ps:=["tokens"]) b!1;o!⟨f27,_,F27,b27,k27,m27⟩:=Ua.get W (ps:=["tokens"]) b!1;o!⟨f28,_,F28,b28,k28,m28⟩:=Ub.get W (ps:=["tokens"]) b!1;h! Fa1:∀n:Nat,jG l.prog w K mg base (eE l.prog w) (81+n) "read_or" ["tokens"] (bD 1 K (qy a n).1)/\jG l.prog w K mg base (eE l.prog w) (81+n) "read_and" ["tokens"] (bD 1 K (qy a n).2.1)/\jG l.prog w K mg base (eE l.prog w) (81+n) "read_not" ["tokens"] (bD 1 K (qy a n).2.2):=by
  intro n;induction n with
  |zero=>~\(\(_,_,xO,b26,k26,m26),\(_,_,xO,b27,k27,m27),\(_,_,xO,b28,k28,m28))
  |succ n ih=>
   o!⟨J26,J27,Zm⟩:=ih;h! q26:=amW (P:=l.prog) (w:=w) (base:=base) (k:=81+n) T F26 J27 xn.u zc.u xq.u;h! q27:=amQ (P:=l.prog) (w:=w) (base:=base) (k:=81+n) T F27 Zm xn.u zc.u xq.u;h! q28:=amV (P:=l.prog) (w:=w) (base:=base) (k:=81+n) T F28 Zm J26 H25.u xn.u zc.u xq.u Zi.u Zj.u;~\(\(_,_,q26,b26,k26,m26),\(_,_,q27,b27,k27,m27),\(_,_,q28,b28,k28,m28))
 o!⟨H26,H27,H28⟩:=Fa1 85;h! H29:=Uc.has W (λ_ _ F=>am1 T F H26.u HM6.u) b!1;h! Y8:=Ud.has W (λ_ _ F=>(amT T F H29.u HI2.u).cl) b!1;h! Y9:=Ue.has W (λ_ _ F=>amk T F) b!3;o!⟨f33,_,F33,b33,k33,m33⟩:=Uh.get W (ps:=["term"]) b!1;h! o33:=Ni (P:=l.prog) (w:=w) (K:=K) (mg:=mg) (base:=base) (f:=f33) (x:="show_term") (k0:=1) (st:=2) (F0:=ZQ a) (hn:=rfl) (λo=>\(_,_,o,b33,k33,m33)) (λFs k hk Hh=>by
  h! J32:=Ug.has W (λ_ _ F=>amt (k:=k+0) T F Hh.u) b!2;~ams (k:=k+1) T F33 J32.u Hh.u Y9.u Y6.u) 32
 h! H33:jG _ _ _ _ _ _ _ _ _ _:=\(_,_,o33,b33,k33,m33);o!⟨f35,_,F35,b35,k35,m35⟩:=Uj.get W (ps:=["condition"]) b!1;h! o35:=Ni (P:=l.prog) (w:=w) (K:=K) (mg:=mg) (base:=base) (f:=f35) (x:="show_condition") (k0:=65) (st:=2) (F0:=ZP a) (hn:=rfl) (λo=>\(_,_,o,b35,k35,m35)) (λFs k hk Hh=>by
  h! J34:=Ui.has W (λ_ _ F=>amo (k:=k+0) T F Hh.u) b!2;~amq (k:=k+1) T F35 J34.u Hh.u Y9.u H33.u) 32
 h! H35:jG _ _ _ _ _ _ _ _ _ _:=\(_,_,o35,b35,k35,m35);h! H36:=Uk.has W (λ_ _ F=>amx T F) b!2;h! H37:=Ul.has W (λ_ _ F=>amF T F) b!2;h! Zc:=Um.has W (λ_ _ F=>amC T F H37.u) b!1;h! H39:=Uo.has W (λ_ _ F=>amG T F) b!2;h! Zd:=Up.has W (λ_ _ F=>amM T F) b!1;h! H41:=Ur.has W (λ_ _ F=>amE T F Zc.u Zd.u H39.u) b!2;h! Je:=Us.has W (λ_ _ F=>amK T F) b!3;h! H43:=Ut.has W (λ_ _ F=>amP T F Je.u) b!3;h! H44:=Uu.has W (λ_ _ F=>amI T F Zc.u Zd.u Je.u) b!2;h! Zf:=Uv.has W (λ_ _ F=>amy T F) b!3;h! Zg:=Uw.has W (λ_ _ F=>amD T F Je.u) b!3;h! H47:=Ux.has W (λ_ _ F=>amA T F Je.u) b!1;h! H48:=Uy.has W (λ_ _ F=>amL T F) b!2;h! H49:=Uz.has W (λ_ _ F=>amN T F H43.u H44.u Zf.u H47.u Zg.u H41.u) b!3;h! H50:=UG.has W (λ_ _ F=>amB T F Zf.u Zg.u) b!2;h! H51:=UJ.has W (λ_ _ F=>(amz T F H48.u H49.u H50.u).cl) b!3;o!⟨f52,_,F52,b52,k52,m52⟩:=UL.get W (ps:=["_law_found","_law_due"]) b!2;h! o52:=Ni (P:=l.prog) (w:=w) (K:=K) (mg:=mg) (base:=base) (f:=f52) (x:="_law_alike") (k0:=0) (st:=1) (F0:=ZR a) (hn:=rfl) (λo=>\(_,_,o,b52,k52,m52)) (λFs k hk Hh=>by
  ~amw (k:=k+0) T F52 Hh.u) 60
 h! Zh:jG _ _ _ _ _ _ _ _ _ _:=\(_,_,o52,b52,k52,m52);h! H53:=UT.has W (λ_ _ F=>amO T F) b!2;h! H54:=UW.has W (λ_ _ F=>(amJ T F).cl) b!1;h! H55:=U0.has W (λ_ _ F=>amH T F Y8.u Zh.u) b!3;h! o56:=aml (P:=l.prog) (w:=w) (base:=base) T F56 H36.u H51.u H35.u H53.u Y8.u Zh.u H54.u H55.u;r! o56.imp λvs H Q E q=>?_;o!⟨al,ns,hl,fr,hn,rv,tt,q⟩:=q;r!\(hl,tt,al,_,fr,rv,?_);h! A:Aft K al E H (R.ok (D.bl true)) (λd H'=>∀v,Rep K al H' v d->Q v H'):=λH' sm v rv=>by c! rv;~q H' sm
 h! mt:wy a.d9 a.NoText a.NoText=true:=by
  u! wy;rw[ei,akn U7 (by simp)];rfl
 rw[<-ak5 (aio _) (aix _) (shM _) (stM _) (rcM _) (Z5 _) (prM _) (neM _ mt) ns]at A;~A
T! walk{l:PySem.W.OpenLaw}{q:Program}{loose:List Str}{XP:(G!)->Heap->Prop}{YP:World->Heap->Prop}{d:DefRec}{K:Params->PySem.W.Frag}(hn:l.most=some 63)(hdf:d.params.defaults=[])
    (hY:∀(w:World) (h:Heap),YP w h->(K w.params).In h)(hT:∀w:World,(j9 (K w.params)).all (λt=>((PyProof.Rows.recsOf q).find? λe=>e.name==t.1).isSome)=true)(hN:∀w:World,PySem.W.noTabs (K w.params)=true)
    (F:∀(w:World) (mg:G!) (fa:Addr) (h:Heap),(K w.params).In h->h.Ns mainGlobals mg->mg d.name=some (.ref fa)->
      ∃fd:FuncData,(∀(s:Shared) (u:Value),BindsTo s fd \([u],[]) [("_law_script",u)])/\∀base:Heap,(K w.params).In base->base.Ns mainGlobals mg->BM mg base->fM l.prog w (K w.params) mg base (eE l.prog w) 170 fa fd ["_law_script"] (W8 (K w.params))):
    PySem.W.WalkO q loose XP YP l.row.toRowW d [] (λf vs=>PySem.call f vs):=by
 r! Y0.ahJ hn hdf λw s₀ s₁ mg mb fa o pm cd doc a vs ns G Y ho hd hcd Gk La hints hlen hg=>?_;h! KX:=hY w _ Y;o!⟨fd,hb,hF⟩:=F w mg fa _ KX G.T.g Gk;r! akI KX G.T.g G.T.b G.T.builtins G.T.nolimit hg La hints (Nat.le_trans hlen d?) \(rfl,d?,d?) (arp G.T KX (hT w)) (hN w) G.T.bmain hF hb (λH tt hS=>aqq hlen tt ?_) λH e s' h=>?_
 ·rcases hS with h|⟨o,its,n,h1,h2,h3,h4,h5,h6⟩
  ·~.lst (.inl \(trivial,h)) (VF _)
  ·h! e:=KX a o h1
   rw[La]at e;c! e;c! h4;~.lst (.inr \(vs,_,h1,by simpa using h5,by simpa using h6)) (VF _)
 ·o!⟨_,_,_,_,_,_,_,_,_,_,_,_,z⟩:=h
  ~z
end mQ
namespace PySem.W.Fast
tw! tw8095856051707437705 tw10394289879352419947 tw14697879691577701181 tw17325401085182901734 tw3268543369790873138 tw11394550827021625199 tw17100222568547502970 tw2154926654390842707 tw11716426468616558287 tw1177401373932791182 tw384332107554200992 tw11395068760667692841 tw11721794570309101606 tw10880584313607295618 tw11790223537179543531 tw3927008524019216173 tw8200720517867910251 tw197420702815590093 tw15668395707540838048 tw6760734374029638525 tw15790131944247141839 tw16283229404288110511 tw16990594381143995625 tw116736456272952626 tw17621436207681935088 tw6305565708201003145 tw17893900512126615129 tw10131797847330635187 tw16271874186605413652 tw10879976838024157122 tw3648642424723437227 tw16397397637404970087 tw6909065319029380234 tw3241919734046348399 tw14873625147754715116 tw9521993876571554469 tw4710407927289334911 tw9020263873806368890 tw2778874611634259859 tw7569710027727192078 tw6812853754830450242 tw12457758448606734980 tw2610265954874831560 tw12905183863948447106 tw2679741966676884278 tw6213449616907591541 tw8428033105132034059 tw15875507257529798598 tw5189247925421463645 tw13678045701402532674 tw4368169645829558896 tw16821141394322788090 tw4644412666775168222 tw2216155097725031983 tw4460118975181464986 tw7452128626107843298 tw11181318842540257617 tw5125734812554771963 tw11014060213979191851 tw2258872988927976923 tw11068746915078589582 tw2909804181764617942 tw5737802203701956930 tw10218255000722658286 tw13708426846575643976 tw1365241402237944037 tw12558802381302197056 tw7814546051768032380 tw17069620220161189305 tw7018098276704154974 tw8020472347275640566 tw6731986646747886313 tw3522281408988244930 tw14947963388556826824 tw9897234445213364096 tw7339738488740215987 tw15144272543514766671 tw15712177190725408239 tw9056580186248830524 tw13105445863121506991 tw3676436003502149836 tw14811878084306415887 tw13624667072702592136 tw1228605606704445932 tw11143518723340128158 tw17545357716634533872 tw7230581736543783426 tw10082321031144444798 tw1693267665383286358 tw1326607462634845757 tw13328549002354012525 tw16967763059643759694 tw717259701074733790 tw11121575660095386480 tw8809683861056242528 tw9256550631485588295 tw15375024349665072520 tw9478774235941539313 tw14649292796013917837 tw3736304605444465770 tw1405786119252922847 tw10144466632940042989 tw2093560287068336933 tw9036893059586747396 tw17920059655328912824 tw10277424278686123854 tw1412856362831930056 tw416531308671518809 tw10491692216386194355 tw13264184110771558564 tw7417292744919094608 tw9177964330080605383 tw13195719156273034619 tw14600516005386458288 tw1048578318169786707 tw7787038430855372813 tw862971747555879568 tw3930152091263662006 tw3465114430214036959 tw11197765881477976841 tw1980166516123130807 tw17225249144539178674 tw6112979863081704079 tw2068638198245547626 tw10666248313836789175 tw1512334145840249801 tw12839771615034335707 tw9304035220047617412 tw15503163921960777029 tw4012834916290970993 tw4549868485096387253 tw13493442636635721422 tw13162563091163057777 tw16635166128554973891 tw10156747702085762565 tw13346655499847708045 tw5390892495881511968 tw10993359325661466524 tw10130277646552280008 tw1085766420853603278 tw13650275258227578423 tw5376413852618047320 tw8041895014980598280 tw2435244567250554115 tw12630754204788247626 tw16229017180125834553 tw4882530446751673145 tw13893773777776620135 tw12012514251137938171 tw11450821430598944130 tw1825670683286220613 tw10346416455652435255 tw9798674860336503346 tw12720214743217960862 tw5698073413860421261 tw534209542006809966 tw9180243748190120117 tw14993327235470469783 tw6988669500171422524 tw12855763166674714815 tw9713797561419877144 tw6405321610613433513 tw1488271903738852230 tw4621802490068592007 tw10764376221664000742 tw3705180352291012310 tw15688585083783901225 tw17436841954103434198 tw16012242641651112955 tw5921976811688085341 tw16033063355608558577 tw9912923193786953522 tw4019609855027606835 tw5996472785333690553 tw16180240918152744975 tw13228213253569632379 tw609982938805082107 tw9753868130527842860 tw6928551712923642846 tw8501675741223479185 tw7244744590933719337 tw2282842098869071312 tw8981779271652768359 tw17903125091996746311 tw12140283714286484215 tw10264924918786330183 tw17923514105192228386 tw16744258063706930561 tw14388719409809263819 tw2897511356945044654 tw15191008500123662947 tw6372066186560118695 tw1090762111884708500 tw801222725582931604 tw5154575893606591483 tw4348454843357464004 tw1222593310591344643 tw9862419295623452909 tw7913423447659664582 tw16880937508796433120 tw14300505267617639727 tw11805961915894405794 tw10888530919134160611 tw7906737676885555921 tw3952283444849202198 tw15076921049671449355 tw14558572982787535579 tw13862355550921668842 tw5943687056557308793 tw4053543308286532038 tw14305804038325866894 tw3308320388231793218 tw2930225451964505913 tw2789679715564701804 tw2440980302150754656 tw17870658936946169198 tw15939002352134547950 tw15748171127088291002 tw1471267366252777879 tw13890606287378009044 tw13833873007163316800 tw10910503488641853378 tw14176065813088495529 tw13667864711987635587 tw8701413967862319348 tw7237568141104139612 tw6549481472541741499 tw5303091006012295056 tw4708352368809025710 tw3482742049797662288 tw15240702273604733670 tw9526652953208931417 tw14599926122244381095 tw10702050832626881791 tw14304297213591185878 tw1859222592616591011 tw2582383801070014495 tw15256108488160337277 tw3055646977615222360 tw17829942091177016343 tw17317507785151301654 tw1710389893974183373 tw16252186737080783550 tw17565301870952615579 tw17455293981302399200 tw11357034173242532807 tw9968347612706876580 tw18436386732961823318 tw1000177517973441965 tw1178528573354903846 tw13748860405895045606 tw13710048987255355835 tw16530548380462523891 tw32183696179656118 tw8308597685483599701 tw17913666438974202793 tw9765777547144737961 tw14763107266117256890 tw4942024836849188229 tw3803792028918799564 tw15198919239344623607 tw9395022397203193050 tw6811861054110937519 tw7318767321412548870 tw3986154324002272945 tw7519357136937886027 tw6783553144318322349 tw17552056625402969956 tw16091629419025644239 tw12453761488010761573 tw10203379703062870056 tw9217855563974430373 tw9974976917427588693 tw5485304091321802155 tw7795465513623833825 tw14384826580241668561 tw15854991138279137387 tw6500562271628561956 tw8697346548891350173 tw10234557680899228139 tw15448201519947101556 tw14936082578382310691 tw12625257474931452316 tw12143436280289944410 tw11757974586371347682 tw7470856653404081909 tw12388515714514432290
end PySem.W.Fast
open PySem PySem.W PyProof.Rows
set_option maxRecDepth 100000 in
set_option maxHeartbeats 0 in
theorem PySem.Challenge.cw_weather_k33_whole_conditions_read_back_holds:PySem.Challenge.rw_weather_k33_whole_conditions_read_back.Holds:=by
 w_on;o_law;k_head;(case hw=>w_witness2)
 k_fill
 r! mQ.walk (l:=PySem.Challenge.rw_weather_k33_whole_conditions_read_back) rfl rfl (λw h Y=>by first|~PySem.W.km_in_of Y|~PySem.W.kIn_of Y) ?hT ?hN ?F;case hT=>~λw=>by kernel_rfl
 case hN=>~λw=>by kernel_rfl
 case F=>
  intro w mg fa h KX G Gk;refine' mQ.all_mk KX G Gk ?p1 ?Tr ?Tt ?Tu ?Tv ?Tw ?Tz ?TF ?TJ ?TQ ?TV ?TY ?T3 ?T5 ?T6 ?T7 ?T8 ?T9 ?Ua ?Ub ?Uc ?Ud ?Ue ?Ug ?Uh ?Ui ?Uj ?Uk ?Ul ?Um ?Uo ?Up ?Ur ?Us ?Ut ?Uu ?Uv ?Uw ?Ux ?Uy ?Uz ?UG ?UJ ?UL ?UT ?UW ?U0 ?a56 ?Ss ?Qk ?R7 ?PB ?Px ?Py ?Pz ?abO ?Su ?Ql ?R8 ?Yk ?Yl ?Ym ?Yn ?Yo ?Yp ?Yq ?Qu ?Qv ?Qw ?Qx ?Qy ?Qz ?QF ?QD ?QC ?QB ?p2 ?a3 ?n3 ?l3 ?c3 ?k3 ?d3 ?p4 ?p5 ?p6 ?p7 ?p8 ?p9 ?YL ?YW ?YS ?YZ ?YK ?YT ?YQ ?YX ?YH ?Ol ?YJ ?U7 ?Ab ?Ah ?Al ?Aa ?Af ?Ai ?Ak ?Aj ?Ag ?Ae ?Ac ?SJ ?Yu ?Yv ?Yx ?Yy ?Yz ?YB ?YC ?YD ?YF ?YG;case p1|Tr|Tt|Tu|Tv|Tw|Tz|TF|TJ|TQ|TV|TY|T3|T5|T6|T7|T8|T9|Ua|Ub|Uc|Ud|Ue|Ug|Uh|Ui|Uj|Uk|Ul|Um|Uo|Up|Ur|Us|Ut|Uu|Uv|Uw|Ux|Uy|Uz|UG|UJ|UL|UT|UW|U0=>kdn
  case a56|Ss|Qk|R7|PB|Px|Py|Pz|abO|Su|Ql|R8=>kre
  case Yk=>kernel_rfl
  case Yl|Ym|Yn|Yo|Yp|Yq=>kre
  case Qu|Qv|Qw=>kernel_rfl
  case Qx=>kre
  case Qy=>kernel_rfl
  case Qz|QF|QD|QC|QB=>kre
  case p2=>kdm
  case a3|n3|l3|c3|k3|d3=>kre
  case p4|p5|p6|p7|p8|p9=>kdm
  case YL=>k_exc
  case YW|YS|YZ=>kre
  case YK=>k_exc
  case YT|YQ|YX|YH|Ol|YJ=>kre
  case U7=>kernel_rfl
  case Ab|Ah|Al|Aa|Af|Ai|Ak|Aj|Ag|Ae|Ac|SJ|Yu|Yv|Yx|Yy|Yz|YB|YC|YD|YF|YG=>kre
#print axioms PySem.Challenge.cw_weather_k33_whole_conditions_read_back_holds
