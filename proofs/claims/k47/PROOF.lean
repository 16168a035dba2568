import PyProof.Rows.All
import Wide.All
import OpenK.AllK
import Wide.FinOn
import Lean
import PyProof.EqAt
import PyProof.EqKinds
import PyProof.TupleCall
import PyProof.Rows.ListRangeD
import KE.LcSums
import KE.KRevSl
import PyProof.Rows.SetFrom
import PySem.Challenge.RW_treeasks_k47_pointed_told
set_option Elab.async false
set_option linter.all false
set_option maxRecDepth 100000
set_option genSizeOf false
set_option maxHeartbeats 4000000
set_option exponentiation.threshold 9000
noncomputable section
theorem zo0{x0 x2:Int}{n1:Nat}(h0:(x0:Int)≤(n1:Int))(h1:((0:Int)≤x2)∧((x2:Int)<x0)):(x2:Int)≤(n1:Int):=by lia
theorem zo1{x0:Int}{n1:Nat}(h0:((0:Int)<x0)∧((x0:Int)≤(n1:Int))):(1:Int)≤x0:=by lia
theorem zo2{x0 x2 x4 x5 x6:Int}{n1 n3:Nat}(h0:(0:Int)≤x0)(h1:(x0:Int)≤(n1:Int))(h2:(0:Int)≤x2)(h3:(x2:Int)≤(n1:Int))(h4:((n3+(Int.toNat (x0+x2))):Nat)≤46)(h5:(n1:Nat)≤23)(h6:(x0:Int)≠x2)(h7:((x4+x5):Int)=(x0+x2))(h8:((0:Int)≤x6)∧((x6:Int)<x4)):(((n3+1)+(Int.toNat (x5+x6))):Nat)≤46:=by lia
theorem zo3{n0:Nat}:(((2*n0)/2):Nat)=n0:=by lia
theorem zo4{x0 x2 x4 x5 x6:Int}{n1 n3:Nat}(h0:(0:Int)≤x0)(h1:(x0:Int)≤(n1:Int))(h2:(0:Int)≤x2)(h3:(x2:Int)≤(n1:Int))(h4:((n3+(Int.toNat (x0+x2))):Nat)≤46)(h5:(n1:Nat)≤23)(h6:(x0:Int)≠x2)(h7:((x4+x5):Int)=(x0+x2))(h8:((0:Int)≤x6)∧((x6:Int)<x4)):((Int.toNat (x5+x6)):Nat)<(Int.toNat (x0+x2)):=by lia
theorem zo5{x1 x2 x5:Int}{n0 n3 n4:Nat}(h0:(n0:Nat)≤23)(h1:(0:Int)≤x1)(h2:(x1:Int)≤(n0:Int))(h3:(0:Int)≤x2)(h4:(x2:Int)≤(n0:Int))(h5:(((n3+n4)+(Int.toNat (x1+x2))):Nat)≤46)(h6:(x1:Int)≠x2)(h7:(x2:Int)<x1)(h8:((0:Int)≤x5)∧((x5:Int)<x1)):((((n3+1)+n4)+(Int.toNat (x5+x2))):Nat)≤46:=by lia
theorem zo6{x1 x2 x5:Int}{n0 n3 n4:Nat}(h0:(n0:Nat)≤23)(h1:(0:Int)≤x1)(h2:(x1:Int)≤(n0:Int))(h3:(0:Int)≤x2)(h4:(x2:Int)≤(n0:Int))(h5:(((n3+n4)+(Int.toNat (x1+x2))):Nat)≤46)(h6:(x1:Int)≠x2)(h7:(x1:Int)<x2)(h8:((0:Int)≤x5)∧((x5:Int)<x2)):(((n3+(n4+1))+(Int.toNat (x1+x5))):Nat)≤46:=by lia
theorem zo7{x0:Int}{n1:Nat}(h0:(0:Int)≤x0)(h1:(x0:Int)<(n1:Int)):((Int.toNat x0):Nat)<n1:=by lia
theorem zo8{x0 x2 x4 x5:Int}{n1 n3:Nat}(h0:(0:Int)≤x0)(h1:(x0:Int)≤(n1:Int))(h2:(0:Int)≤x2)(h3:(x2:Int)≤(n1:Int))(h4:((n3+(Int.toNat (x0+x2))):Nat)≤46)(h5:(n1:Nat)≤23)(h6:(x0:Int)≠x2)(h7:¬((x2:Int)<x0))(h8:(x4:Int)=x2)(h9:((0:Int)≤x5)∧((x5:Int)<x2)):(((n3+1)+(Int.toNat (x0+x5))):Nat)≤46:=by lia
theorem zo9{x0 x2 x4 x5:Int}{n1 n3:Nat}(h0:(0:Int)≤x0)(h1:(x0:Int)≤(n1:Int))(h2:(0:Int)≤x2)(h3:(x2:Int)≤(n1:Int))(h4:((n3+(Int.toNat (x0+x2))):Nat)≤46)(h5:(n1:Nat)≤23)(h6:(x0:Int)≠x2)(h7:(x2:Int)<x0)(h8:(x4:Int)=x0)(h9:((0:Int)≤x5)∧((x5:Int)<x0)):(((n3+1)+(Int.toNat (x5+x2))):Nat)≤46:=by lia
theorem p9{n0:Nat}:(((2*n0)%2):Nat)=0:=by lia
theorem zo11{x1 x2 x3:Int}{n0:Nat}(h0:(n0:Nat)≤23)(h1:(0:Int)≤x1)(h2:(x1:Int)≤(n0:Int))(h3:(0:Int)≤x2)(h4:(x2:Int)≤(n0:Int))(h5:(x1:Int)≠x2)(h6:(x2:Int)<x1)(h7:((0:Int)≤x3)∧((x3:Int)<x1)):((Int.toNat (x3+x2)):Nat)<(Int.toNat (x1+x2)):=by lia
theorem zo12{x1 x2 x3:Int}{n0:Nat}(h0:(n0:Nat)≤23)(h1:(0:Int)≤x1)(h2:(x1:Int)≤(n0:Int))(h3:(0:Int)≤x2)(h4:(x2:Int)≤(n0:Int))(h5:(x1:Int)≠x2)(h6:(x1:Int)<x2)(h7:((0:Int)≤x3)∧((x3:Int)<x2)):((Int.toNat (x1+x3)):Nat)<(Int.toNat (x1+x2)):=by lia
theorem zo13{x0 x2 x3 x4:Int}{n1:Nat}(h0:(0:Int)≤x0)(h1:(x0:Int)≤(n1:Int))(h2:(0:Int)≤x2)(h3:(x2:Int)≤(n1:Int))(h4:(n1:Nat)≤23)(h5:(x0:Int)≠x2)(h6:¬((x2:Int)<x0))(h7:(x3:Int)=x2)(h8:((0:Int)≤x4)∧((x4:Int)<x2)):((Int.toNat (x0+x4)):Nat)<(Int.toNat (x0+x2)):=by lia
theorem zo14{x0 x2 x3 x4:Int}{n1:Nat}(h0:(0:Int)≤x0)(h1:(x0:Int)≤(n1:Int))(h2:(0:Int)≤x2)(h3:(x2:Int)≤(n1:Int))(h4:(n1:Nat)≤23)(h5:(x0:Int)≠x2)(h6:(x2:Int)<x0)(h7:(x3:Int)=x0)(h8:((0:Int)≤x4)∧((x4:Int)<x0)):((Int.toNat (x4+x2)):Nat)<(Int.toNat (x0+x2)):=by lia
theorem rV{x0:Int}(h0:(0:Int)≤x0):(x0:Int)=(((Int.toNat x0):Nat):Int):=by lia
theorem zo16{x0:Int}(h0:(0:Int)≤x0)(h1:(x0:Int)<4):((x0:Int)=0)∨(((x0:Int)=1)∨(((x0:Int)=2)∨((x0:Int)=3))):=by lia
theorem pU{n0 n1:Nat}(h0:(n0:Nat)<(n1+1))(h1:¬((n0:Nat)=n1)):(n0:Nat)<n1:=by lia
theorem zo18{n0 n1 n2 n3 n4 n5:Nat}(h0:(n0:Nat)=(n1+1))(h1:((((2*(n2-n3))+n4)+1):Nat)≤((2*(n2-n5))+n0))(h2:((n3+1):Nat)≤n2):((((2*(n2-(n3+1)))+(n4+1))+1):Nat)≤((2*(n2-n5))+n0):=by lia
theorem kD{n0 n1:Nat}:(((n0+1)+n1):Nat)=(n0+(n1+1)):=by lia
theorem zo20{n0 n1:Nat}(h0:(n0:Nat)<n1):((n1-(n0+1)):Nat)<(n1-n0):=by lia
theorem kR{n0 n1 n2:Nat}(h0:(n0:Nat)≤n1)(h1:(n0:Nat)=n2):(n2:Nat)≤n1:=by lia
theorem zo22{x0 x1:Int}(h0:(0:Int)≤x0)(h1:((0:Int)≤x1)∧((x1:Int)<x0)):((Int.toNat x1):Nat)<(Int.toNat x0):=by lia
theorem qk{n0 n1:Nat}(h0:(n0:Nat)≤23)(h1:(n1:Nat)≤n0):(n1:Nat)<1000:=by lia
theorem zo24{x5 x6 x7:Int}{n0 n1 n2 n3 n4 n8:Nat}(h0:(n0:Nat)=(n1+n2))(h1:(n3:Nat)=(n4+n2))(h2:((x5+1):Int)=(n0:Int))(h3:((x6+1):Int)=(n3:Int))(h4:((x7+1):Int)=(n2:Int))(h5:(n8:Nat)=(n1+n4)):((n8:Int):Int)=((x5+x6)-(2*x7)):=by lia
theorem zo25{x0:Int}{n1:Nat}(h0:(1:Int)≤x0)(h1:(x0:Int)≤(n1:Int)):((Int.toNat (x0-1)):Nat)<n1:=by lia
theorem zo26{n0 n1 n2 n3:Nat}(h0:(n0:Nat)≤30)(h1:(n1:Nat)<n0)(h2:(n2:Nat)<23)(h3:(n3:Nat)≤((23*n1)+n2)):(n3:Nat)<1000:=by lia
theorem zo27{n0 n1 n2:Nat}(h0:(n0:Nat)=(n1+2))(h1:(n2:Nat)=(n1+1)):((n0-1):Nat)=((n2-1)+1):=by lia
theorem lZ{x0:Int}{n1:Nat}(h0:(x0:Int)≤(n1:Int)):((x0-1):Int)<(n1:Int):=by lia
theorem zo29{n0 n1:Nat}:(((((2*(n0+n1))+1)/2)-n0):Nat)=(0+n1):=by lia
theorem qu{x0 x1:Int}(h0:(0:Int)≤x0)(h1:((0:Int)≤x1)∧((x1:Int)<x0)):(0:Int)<x0:=by lia
theorem zo31{n0:Nat}(h0:(n0:Nat)<3)(h1:¬((n0:Nat)=0)):((((n0-1):Nat):Int):Int)=((0+(n0:Int))-1):=by lia
theorem qH{x0 x2 x3:Int}{n1:Nat}(h0:(x0:Int)≤(n1:Int))(h1:((0:Int)≤x2)∧(((x2:Int)≤x0)∧((x2:Int)≤x3))):(x2:Int)≤(n1:Int):=by lia
theorem zo33{n0 n1:Nat}(h0:¬((n0:Nat)<n1))(h1:((n0-n1):Nat)=0):(n0:Nat)=n1:=by lia
theorem o8{x0 x1:Int}(h0:(x0:Int)<x1)(h1:(0:Int)≤x1)(h2:(0:Int)≤x0):(0:Int)<x1:=by lia
theorem oQ{x0 x1:Int}(h0:(x0:Int)<x1)(h1:(0:Int)≤x0)(h2:(0:Int)≤x1):(0:Int)<x1:=by lia
theorem zo36{x0 x2:Int}{n1:Nat}(h0:((Int.toNat x0):Nat)=n1)(h1:(0:Int)≤x0)(h2:¬((x0:Int)=0))(h3:((0:Int)≤x2)∧((x2:Int)<x0)):((Int.toNat x2):Nat)<n1:=by lia
theorem zo37{x0 x1 x2:Int}(h0:(0:Int)≤x0)(h1:(x1:Int)=x0)(h2:((0:Int)≤x2)∧((x2:Int)<x0)):(0:Int)≤(x0-1):=by lia
theorem zo38{n0 n1:Nat}(h0:(n0:Nat)≤n1):((n0+1):Nat)≤(n1+1):=by lia
theorem zo39{x0 x1:Int}(h0:(0:Int)≤x0)(h1:((0:Int)≤x1)∧((x1:Int)<x0)):(0:Int)≤(x0-1):=by lia
theorem zo40{x2:Int}{n0 n1 n3:Nat}(h0:(n0:Nat)≤n1)(h1:((-(n0:Int)):Int)≤x2)(h2:(n0:Nat)=n3)(h3:(n1:Nat)<(2^63)):((-(2^63)):Int)≤x2:=by lia
theorem zo41{x0:Int}(h0:(0:Int)≤x0):(1:Int)≤(1+x0):=by lia
theorem zo42{x0 x2 x3:Int}{n1:Nat}(h0:(x0:Int)≤(n1:Int))(h1:(x2:Int)=x0)(h2:((0:Int)≤x3)∧((x3:Int)<x0)):(x3:Int)≤(n1:Int):=by lia
theorem zo43{n0 n1 n2:Nat}(h0:(n0:Nat)≤n1)(h1:(n2:Nat)≤n1)(h2:(n2:Nat)<n0):(((2*(n1-n0))+1):Nat)<((2*(n1-n2))+1):=by lia
theorem zo44{n0 n1:Nat}(h0:(n0:Nat)≠n1):((2*n0):Nat)≠(2*n1):=by lia
theorem zo45{x0 x1 x3:Int}{n2:Nat}(h0:((Int.toNat (x0+x1)):Nat)≤(n2+1))(h1:(0:Int)≤x0)(h2:(x0:Int)<x1)(h3:((0:Int)≤x3)∧((x3:Int)<x1)):((Int.toNat (x0+x3)):Nat)≤n2:=by lia
theorem zo46{n0:Nat}(h0:(0:Nat)<n0):((Int.toNat ((-1)+(n0:Int))):Nat)=(n0-1):=by lia
theorem zo47{n0 n1 n2:Nat}(h0:(n0:Nat)≤n1)(h1:(n1:Nat)≤n2)(h2:(n0:Nat)≤n2):(((2*(n2-n1))+0):Nat)<((2*(n2-n0))+1):=by lia
theorem rC{n0 n1:Nat}(h0:(n0:Nat)≤1000)(h1:(n1:Nat)=n0):(n1:Nat)≤1000:=by lia
theorem zo49{x0 x2:Int}{n1:Nat}(h0:(x0:Int)≤(n1:Int))(h1:(x2:Int)≤(n1:Int))(h2:(n1:Nat)≤23):((Int.toNat (x0+x2)):Nat)≤100:=by lia
theorem zo50{x0:Int}(h0:(1:Int)≤x0):((1+(((Int.toNat (x0-1)):Nat):Int)):Int)=x0:=by lia
theorem zo51{x0 x1 x3:Int}{n2:Nat}(h0:((Int.toNat (x0+x1)):Nat)≤(n2+1))(h1:(0:Int)≤x1)(h2:(x1:Int)<x0)(h3:((0:Int)≤x3)∧((x3:Int)<x0)):((Int.toNat (x1+x3)):Nat)≤n2:=by lia
theorem zo52{x2:Int}{n0 n1 n3:Nat}(h0:(n0:Nat)≤n1)(h1:(x2:Int)<(n0:Int))(h2:(n0:Nat)=n3)(h3:(n1:Nat)<(2^63)):(x2:Int)<(2^63):=by lia
theorem zo53{n0:Nat}(h0:(n0:Nat)≤23):((Int.toNat (((n0:Int)+1)-1)):Nat)=n0:=by lia
theorem zo54{n0 n1:Nat}(h0:(n0:Nat)≤1000)(h1:(n1:Nat)≤n0):(n1:Nat)≤1000:=by lia
theorem zo55{x0 x1:Int}(h0:(1:Int)≤x0)(h1:(1:Int)≤x1)(h2:¬((x1:Int)=x0)):¬(((Int.toNat (x0-1)):Nat)=(Int.toNat (x1-1))):=by lia
theorem zo56{x0 x2:Int}{n1:Nat}(h0:(x0:Int)≤(n1:Int))(h1:(x2:Int)≤(n1:Int))(h2:(n1:Nat)≤23):((x0+x2):Int)≤46:=by lia
theorem qg{n0 n1:Nat}(h0:((n0+1):Nat)≤n1):(n0:Nat)<n1:=by lia
theorem zo58{x0 x1:Int}{n2 n3:Nat}(h0:(0:Int)<x0)(h1:(x0:Int)≤23)(h2:(0:Int)≤x1)(h3:(x1:Int)<x0)(h4:(n2:Nat)=(Int.toNat (1+x1)))(h5:(n3:Nat)=(Int.toNat (1+x1))):(n2:Nat)≤23:=by lia
theorem zo59{x2 x3:Int}{n0 n1:Nat}(h0:(((n0+n1)+(Int.toNat (x2+x3))):Nat)≤46)(h1:(x2:Int)≠x3)(h2:(x2:Int)<x3):(n1:Nat)<1000:=by lia
theorem zo60{x2 x3:Int}{n0 n1:Nat}(h0:(((n0+n1)+(Int.toNat (x2+x3))):Nat)≤46)(h1:(x2:Int)≠x3)(h2:(x3:Int)<x2):(n0:Nat)<1000:=by lia
theorem zo61{n0 n1:Nat}(h0:(n0:Nat)=3)(h1:(n1:Nat)<3):(n1:Nat)<n0:=by lia
theorem zo62{x0:Int}{n1 n2:Nat}(h0:(0:Int)≤x0)(h1:(n1:Nat)=(Int.toNat (1+x0)))(h2:(n2:Nat)=(Int.toNat (1+x0))):(1:Nat)≤n1:=by lia
theorem rh{n0 n1:Nat}(h0:((n0+64):Nat)<n1):(n0:Nat)<n1:=by lia
theorem zo64{n0 n1:Nat}(h0:(n0:Nat)≤n1)(h1:¬((n0:Nat)<n1)):(n0:Nat)=n1:=by lia
theorem zo65{n0 n1:Nat}(h0:(n0:Nat)<n1):¬((((2*n0)+1):Nat)=((2*n1)+1)):=by lia
theorem zo66{n0 n1:Nat}:(((((2*(n0+n1))+1)%2):Nat)=1)∧((n0:Nat)≤(((2*(n0+n1))+1)/2)):=by lia
theorem zo67{x0:Int}(h0:((x0:Int)=0)∨((x0:Int)=1)):(((1-x0):Int)=0)∨(((1-x0):Int)=1):=by lia
theorem zo68{n0 n1 n2:Nat}(h0:(n0:Nat)=n1)(h1:(n2:Nat)<n0):(((n2:Int)+1):Int)≤(n1:Int):=by lia
theorem zo69{n0 n1:Nat}(h0:(n0:Nat)=n1)(h1:(n1:Nat)<27):(0:Int)≤(2+(n1:Int)):=by lia
theorem zo70{x0 x2:Int}{n1 n3:Nat}(h0:(x0:Int)≤(n1:Int))(h1:(x2:Int)≤(n1:Int))(h2:(n1:Nat)≤23)(h3:((n3:Int):Int)≤(x0+x2)):(n3:Nat)<64:=by lia
theorem zo71{x0 x1:Int}(h0:(x0:Int)≠x1)(h1:¬((x1:Int)<x0)):(x1:Int)>x0:=by lia
theorem zo72{n0:Nat}(h0:(n0:Nat)≤46):(n0:Nat)≤1000:=by lia
theorem zo73{n0 n1 n2:Nat}(h0:(n0:Nat)=16777216)(h1:(n1:Nat)≤n0)(h2:(n1:Nat)=n2):((n2:Int):Int)<(2^63):=by lia
theorem zo74{n0 n1:Nat}(h0:(n0:Nat)=3)(h1:(n1:Nat)<3):((n1-1):Nat)<n0:=by lia
theorem zo75{x0 x1:Int}(h0:(0:Int)≤x0)(h1:(0:Int)≤x1)(h2:(x1:Int)<x0):(0:Int)<x0:=by lia
theorem zo76{x0 x1:Int}{n2 n3:Nat}(h0:(0:Int)≤x0)(h1:(x0:Int)<x1)(h2:(n2:Nat)=(Int.toNat (1+x0)))(h3:(n3:Nat)=(Int.toNat (1+x0))):((n2:Int):Int)≤x1:=by lia
theorem zo77{n0 n1:Nat}(h0:((n0+1):Nat)≤n1):(n0:Nat)≤n1:=by lia
theorem zo78{x1 x2 x3 x4:Int}{n0:Nat}(h0:((n0+(Int.toNat (x1+x2))):Nat)≤46)(h1:(x1:Int)≠x2)(h2:((x3+x4):Int)=(x1+x2)):(n0:Nat)<1000:=by lia
theorem zo79{n0 n1 n2:Nat}(h0:(n0:Nat)≤n1)(h1:(n2:Nat)≠n1)(h2:(n0:Nat)≤n2):((n2-n0):Nat)≠(n1-n0):=by lia
theorem zo80{x0 x1 x2:Int}(h0:(0:Int)≤x0)(h1:(0:Int)≤x1)(h2:(x0:Int)≠x1)(h3:¬((x1:Int)<x0))(h4:(x2:Int)=x1):(0:Int)<x1:=by lia
theorem zo81{x0 x1:Int}(h0:((1:Int)≤x0)∧((x0:Int)≤1000000000000))(h1:(x1:Int)<x0):((1+x1):Int)≤1000000000000:=by lia
theorem rJ{x0:Int}(h0:¬((0:Int)≤x0)):(x0:Int)<0:=by lia
theorem zo83{n0 n1 n2 n3 n4:Nat}(h0:((n0+n1):Nat)≤n2)(h1:(n0:Nat)=n3)(h2:(n1:Nat)=n4):((n3+n4):Nat)≤n2:=by lia
theorem zo84{x0 x2:Int}{n1:Nat}(h0:(0:Int)≤x0)(h1:(x0:Int)≤(n1:Int))(h2:((0:Int)≤x2)∧((x2:Int)<x0)):((0:Int)<x0)∧((x0:Int)≤(n1:Int)):=by lia
theorem zo85{n0 n1:Nat}(h0:(n0:Nat)≠n1):¬(((2*n0):Nat)=(2*n1)):=by lia
theorem zo86{x1:Int}{n0:Nat}(h0:(n0:Nat)≤23)(h1:(1:Int)≤x1)(h2:(x1:Int)≤(n0:Int)):((Int.toNat (x1-1)):Nat)<(Int.toNat (((n0:Int)+1)-1)):=by lia
theorem zo87{n0 n1 n2:Nat}(h0:(n0:Nat)≤1000)(h1:(n1:Nat)≤n2)(h2:(n2:Nat)<n0):(n1:Nat)≤1000:=by lia
theorem zo88{n0 n1 n2 n3 n4 n5:Nat}(h0:(n0:Nat)=(n1+1))(h1:((((2*(n2-n3))+n4)+1):Nat)≤((2*(n2-n5))+n0)):(((2*(n2-n3))+n4):Nat)<((2*(n2-n5))+n0):=by lia
theorem zo89{n0 n1:Nat}(h0:(n0:Nat)≤n1):(n0:Nat)≤(n1+1):=by lia
theorem zo90{x0 x1:Int}{n2:Nat}(h0:(0:Int)<x0)(h1:(x0:Int)≤23)(h2:(0:Int)≤x1)(h3:(x1:Int)<x0)(h4:(n2:Nat)<(Int.toNat (1+x1))):(n2:Nat)<23:=by lia
theorem zo91{n0:Nat}:(1:Int)≤((n0:Int)+1):=by lia
theorem zo92{n0 n1 n2:Nat}(h0:((2*n0):Nat)=n1)(h1:(n1:Nat)=(2*n2)):(n2:Nat)=n0:=by lia
theorem zo93{x0:Int}{n1:Nat}(h0:(x0:Int)<(n1:Int))(h1:(x0:Int)=(((Int.toNat x0):Nat):Int)):((Int.toNat x0):Nat)<n1:=by lia
theorem zo94{x0 x1:Int}(h0:(x0:Int)≠x1)(h1:¬((x1:Int)<x0)):(x0:Int)<x1:=by lia
theorem zo95{n0 n1 n2:Nat}(h0:(n0:Nat)<n1)(h1:(n2:Nat)≤(n0+1)):(n2:Nat)≤n1:=by lia
theorem zo96{n0 n1:Nat}(h0:(n0:Nat)<n1):((n0:Int):Int)<(n1:Int):=by lia
theorem zo97{n0:Nat}(h0:((n0%2):Nat)=1):(((n0+1)%2):Nat)=0:=by lia
theorem zo98{x0 x2:Int}{n1:Nat}(h0:(1:Int)≤x0)(h1:(x0:Int)≤(n1:Int))(h2:(x0:Int)=x2):((1:Int)≤x2)∧((x2:Int)≤(n1:Int)):=by lia
theorem zo99{n0:Nat}(h0:((n0%2):Nat)=0):(((n0+1)%2):Nat)=1:=by lia
theorem zo100{x1:Int}{n0 n2:Nat}(h0:(n0:Nat)=(Int.toNat (1+x1)))(h1:(n2:Nat)=(Int.toNat (1+x1))):(n0:Nat)=n2:=by lia
theorem u_{x0 x2:Int}{n1:Nat}(h0:(x0:Int)≤(n1:Int))(h1:(x2:Int)=x0):((x0-1):Int)<(n1:Int):=by lia
theorem zo102{x2:Int}{n0 n1:Nat}(h0:(((n0+n1)+(Int.toNat (x2+x2))):Nat)≤46):(n1:Nat)≤46:=by lia
theorem zo103{x2:Int}{n0 n1:Nat}(h0:(((n0+n1)+(Int.toNat (x2+x2))):Nat)≤46):(n0:Nat)≤46:=by lia
theorem zo104{x1:Int}{n0:Nat}(h0:(1:Nat)≤n0)(h1:(n0:Nat)≤100)(h2:(x1:Int)<(n0:Int)):((Int.toNat x1):Nat)<n0:=by lia
theorem zo105{n0 n1 n2:Nat}(h0:(n0:Nat)=n1)(h1:(n2:Nat)<n1):((((n1:Int)-1)-(((n2+1):Nat):Int)):Int)=(((((n1-1)-n2):Nat):Int)-1):=by lia
theorem qc{n0:Nat}(h0:(3:Nat)≤n0)(h1:(n0:Nat)≤2):False:=by lia
theorem zo107{n0 n1 n2:Nat}(h0:(n0:Nat)=3)(h1:(n1:Nat)=n2)(h2:(n2:Nat)<n0):(n1:Nat)<1000:=by lia
theorem ut{n0 n1:Nat}(h0:(n0:Nat)<n1)(h1:¬(((n0+1):Nat)<n1)):((n0+1):Nat)=n1:=by lia
theorem zo109{x0:Int}{n1:Nat}(h0:((0:Int)<x0)∧((x0:Int)≤(n1:Int))):(((((Int.toNat (x0-1))+1):Nat):Int):Int)=x0:=by lia
theorem zo110{x0 x1:Int}(h0:(1:Int)≤x0)(h1:(x0:Int)≤1000000)(h2:(x1:Int)<x0):((1+x1):Int)≤1000000:=by lia
theorem t4{n0 n1 n2:Nat}(h0:(n0:Nat)<(2^63))(h1:(n1:Nat)≤n0)(h2:(n1:Nat)=n2):((n2:Int):Int)<(2^63):=by lia
theorem zo112{n0 n1 n2:Nat}(h0:(n0:Nat)=n1)(h1:(n2:Nat)<n1):((((n1:Int)-1)-(n2:Int)):Int)=((((n1-1)-n2):Nat):Int):=by lia
theorem sh{n0:Nat}:((((n0+1):Nat):Int):Int)=(1+(n0:Int)):=by lia
theorem uV{n0 n1 n2:Nat}(h0:(n0:Nat)<n1):(n0:Nat)<(n1+n2):=by lia
theorem uY{x0 x1:Int}(h0:(0:Int)<x0)(h1:(x0:Int)≤23)(h2:(x1:Int)<x0):((1+x1):Int)<(2^62):=by lia
theorem zo116{x0 x1:Int}(h0:((1:Int)≤x0)∧((x0:Int)≤1000000))(h1:(x1:Int)<x0):((1+x1):Int)≤1000000:=by lia
theorem zo117{x2:Int}{n0 n1:Nat}(h0:(n0:Nat)=n1)(h1:((0:Int)<x2)∧((x2:Int)≤(n1:Int))):((Int.toNat (x2-1)):Nat)<n1:=by lia
theorem zo118{n0 n1:Nat}(h0:(n0:Nat)<n1)(h1:¬(((n0+1):Nat)<n1)):((Int.toNat (((0+(n0:Int))-(n1:Int))+1)):Nat)=0:=by lia
theorem zo119{n0 n1:Nat}:((Int.toNat ((((0+(n0:Int))-(n1:Int))+1)+(n1:Int))):Nat)=(n0+1):=by lia
theorem uS{x0:Int}{n1:Nat}(h0:(x0:Int)=(n1:Int))(h1:(n1:Nat)≤23)(h2:(1:Nat)≤n1):(0:Int)<(x0+1):=by lia
theorem zo121{x0:Int}(h0:(0:Int)≤((((((x0*48271)+11)%2147483647)*39373)+17)%2147483647)):((-(2^64)):Int)<((((((x0*48271)+11)%2147483647)*39373)+17)%2147483647):=by lia
theorem va{x0 x1:Int}(h0:(1:Int)≤x0)(h1:(0:Int)≤x1)(h2:(x0:Int)<x1):(0:Int)<x1:=by lia
theorem zo123{x0 x2 x3:Int}{n1:Nat}(h0:(x0:Int)≤(n1:Int))(h1:(x2:Int)≤(n1:Int))(h2:(x2:Int)=x3)(h3:(n1:Nat)≤23):((Int.toNat (x0+x2)):Nat)≤100:=by lia
theorem zo124{x3:Int}{n0 n1 n2 n4:Nat}(h0:(n0:Nat)≤n1)(h1:(n2:Nat)<n0)(h2:((-(n0:Int)):Int)≤x3)(h3:(n0:Nat)=n4)(h4:(n1:Nat)<(2^63)):((-(2^63)):Int)≤x3:=by lia
theorem zo125{x1 x2:Int}{n0:Nat}(h0:((n0+(Int.toNat (x1+x2))):Nat)≤46)(h1:(x1:Int)≠x2):(n0:Nat)<1000:=by lia
theorem zo126{x0 x1 x2:Int}(h0:(x0:Int)≠x1)(h1:¬((x1:Int)<x0))(h2:(x2:Int)=x1):(x0:Int)<x1:=by lia
theorem zo127{x0 x2:Int}{n1 n3:Nat}(h0:(1:Int)≤x0)(h1:(x0:Int)≤(n1:Int))(h2:(0:Int)≤x2)(h3:(x2:Int)<(n3:Int)):(((1:Int)≤x0)∧((x0:Int)≤(n1:Int)))∧(((0:Int)≤x2)∧((x2:Int)≤((n3:Int)-1))):=by lia
theorem zo128{x0:Int}(h0:(0:Int)≤((((((x0*48271)+11)%2147483647)*39373)+17)%2147483647)):(((((((x0*48271)+11)%2147483647)*39373)+17)%2147483647):Int)<(2^64):=by lia
theorem zo129{x0 x1:Int}(h0:(0:Int)<x0)(h1:(x0:Int)≤23)(h2:(0:Int)≤x1)(h3:(x1:Int)<x0):((Int.toNat (1+x1)):Nat)≤1000:=by lia
theorem uF{n0 n1 n2:Nat}(h0:(n0:Nat)=n1)(h1:(n0:Nat)≤n2):(n1:Nat)≤n2:=by lia
theorem zo131{n0:Nat}:((Int.toNat (((n0:Int)+1)-1)):Nat)=n0:=by lia
theorem zo132{n0 n1 n2:Nat}(h0:((n0+n1):Nat)≤23)(h1:((n2+n1):Nat)≤23):((n2+(n0+1)):Nat)≤61:=by lia
theorem zo133{x3:Int}{n0 n1 n2 n4:Nat}(h0:(n0:Nat)≤n1)(h1:(n2:Nat)<n0)(h2:(x3:Int)<(n0:Int))(h3:(n0:Nat)=n4)(h4:(n1:Nat)<(2^63)):(x3:Int)<(2^63):=by lia
theorem u6{x0 x1:Int}(h0:(0:Int)≤x0)(h1:(0:Int)≤x1)(h2:(x0:Int)<x1):(0:Int)<x1:=by lia
theorem zo135{n0 n1:Nat}(h0:(n0:Nat)<3)(h1:(n1:Nat)≤n0):(n1:Nat)<1000:=by lia
theorem uc{x0 x2:Int}{n1:Nat}(h0:(x0:Int)≤(n1:Int))(h1:(x2:Int)<x0):(x2:Int)≤(n1:Int):=by lia
theorem zo137{n0 n1 n2:Nat}(h0:(n0:Nat)≤23)(h1:(n1:Nat)≤n2)(h2:(n2:Nat)≤n0):(n1:Nat)<1000:=by lia
theorem zo138{n0 n1 n2:Nat}(h0:(n0:Nat)≤n1)(h1:(n0:Nat)=n2):((n0-1):Nat)≤n1:=by lia
theorem zo139{n0 n1 n2 n3 n4:Nat}(h0:(n0:Nat)≤n1)(h1:(n2:Nat)=n3):(n0:Nat)≤(n4+n1):=by lia
theorem zo140{n0 n1 n2:Nat}(h0:(n0:Nat)=n1)(h1:(n1:Nat)≤n2):((n0+(n2-n0)):Nat)=n2:=by lia
theorem zo141{x0:Int}(h0:(1:Int)≤x0):(((((Int.toNat (x0-1))+1):Nat):Int):Int)=x0:=by lia
theorem zo142{x0:Int}{n1 n2:Nat}(h0:¬((0:Int)≤x0))(h1:((-(n1:Int)):Int)≤x0)(h2:((Int.toNat (x0+(n1:Int))):Nat)=n2):(n2:Nat)<n1:=by lia
theorem zo143{x0 x2:Int}{n1:Nat}(h0:(1:Int)≤x0)(h1:(x0:Int)≤(n1:Int))(h2:(x2:Int)=x0):((Int.toNat (x0-1)):Nat)<n1:=by lia
theorem u9{n0 n1:Nat}(h0:(n0:Nat)<n1):(n0:Nat)≤n1:=by lia
theorem zo145{x0:Int}(h0:(0:Int)≤x0)(h1:(x0:Int)<9):(1:Int)≤(1+x0):=by lia
theorem zo146{n0 n1 n2 n3:Nat}(h0:(n0:Nat)=(n1+1)):((((2*(n2-n3))+n1)+1):Nat)≤((2*(n2-n3))+n0):=by lia
theorem zo147{x0 x1:Int}(h0:(0:Int)<x0)(h1:((0:Int)≤x1)∧((x1:Int)≤(((Int.toNat (x0-1)):Nat):Int))):((0:Int)≤x1)∧((x1:Int)<x0):=by lia
theorem zo148{x1 x2:Int}{n0 n3 n4:Nat}(h0:((n0:Int):Int)≤(x1+x2))(h1:(n3:Nat)≤23)(h2:(x1:Int)≤(n3:Int))(h3:(x2:Int)≤(n3:Int))(h4:(n4:Nat)=n0):(n4:Nat)≤46:=by lia
theorem zo149{n0 n1:Nat}(h0:((2*n0):Nat)=(2*n1)):(n0:Nat)=n1:=by lia
theorem nJ{x0:Int}(h0:(1:Int)≤x0):(0:Int)<x0:=by lia
theorem vc{n0 n1 n2:Nat}(h0:(n0:Nat)=n1)(h1:(n2:Nat)<n1):(n2:Nat)<n0:=by lia
theorem zo152{x0 x1:Int}(h0:((Int.toNat (x0+x1)):Nat)≤0)(h1:(0:Int)≤x0)(h2:(0:Int)≤x1):(x0:Int)=x1:=by lia
theorem vb{x2:Int}{n0 n1:Nat}(h0:(n0:Nat)=n1)(h1:((0:Int)<x2)∧((x2:Int)≤(n1:Int))):(x2:Int)≤(n0:Int):=by lia
theorem zo154{n0 n1 n2:Nat}(h0:(n0:Nat)<n1)(h1:(n1:Nat)≤n2):(n0:Nat)<n2:=by lia
theorem uZ{n0 n1 n2:Nat}(h0:(n0:Nat)≤n1):(n0:Nat)≤(n2+n1):=by lia
theorem zo156{x2:Int}{n0 n1 n3:Nat}(h0:(n0:Nat)≤n1)(h1:((-(n0:Int)):Int)≤x2)(h2:(n3:Nat)=n0)(h3:(n1:Nat)<(2^63)):¬((x2:Int)<(-(2^63))):=by lia
theorem tW{x0 x1 x2 x3:Int}(h0:(x0:Int)<x1)(h1:((0:Int)≤x2)∧(((x2:Int)≤x0)∧((x2:Int)≤x3)))(h2:(x1:Int)≤x2):False:=by lia
theorem zo158{x0:Int}(h0:(0:Int)≤x0)(h1:(x0:Int)<3):(1:Int)≤(1+x0):=by lia
theorem zo159{n0:Nat}:((Int.toNat ((-1)+(((n0+1):Nat):Int))):Nat)=n0:=by lia
theorem zo160{x0 x1 x2:Int}(h0:(0:Int)≤x0)(h1:(0:Int)≤x1)(h2:(x1:Int)<x0)(h3:(x2:Int)=x0):(0:Int)<x0:=by lia
theorem zo161{x0:Int}{n1 n2:Nat}(h0:(0:Int)≤x0)(h1:(x0:Int)<(n1:Int))(h2:((Int.toNat x0):Nat)=n2):(n2:Nat)<n1:=by lia
theorem qo{n0:Nat}:(1:Int)≤(1+(n0:Int)):=by lia
theorem uw{x0 x1 x2 x3:Int}(h0:(x0:Int)<x1)(h1:((0:Int)≤x2)∧(((x2:Int)≤x0)∧((x2:Int)≤x3))):(x1:Int)≠x2:=by lia
theorem zo164{n0 n1:Nat}(h0:(n0:Nat)≤27)(h1:(n1:Nat)≤3):((n0+n1):Nat)≤30:=by lia
theorem zo165{n0 n1:Nat}(h0:(n0:Nat)≤27)(h1:(n1:Nat)≤3):((n0+n1):Nat)≤1000:=by lia
theorem zo166{x0 x1 x2 x3:Int}(h0:(x0:Int)<x1)(h1:((0:Int)≤x2)∧(((x2:Int)≤x0)∧((x2:Int)≤x3))):((0:Int)≤x2)∧(((x2:Int)≤x1)∧((x2:Int)≤x0)):=by lia
theorem zo167{x0 x1 x2 x3:Int}(h0:(x0:Int)<x1)(h1:((0:Int)≤x2)∧(((x2:Int)≤x0)∧((x2:Int)≤x3))):((0:Int)≤x2)∧(((x2:Int)≤x0)∧((x2:Int)≤x1)):=by lia
theorem pY{n0:Nat}:(0:Int)≤(n0:Int):=by lia
theorem zo169{n0:Nat}(h0:(n0:Nat)≤46)(h1:(0:Nat)<n0):(0:Int)<(n0:Int):=by lia
theorem zo170{x0:Int}(h0:(0:Int)≤x0)(h1:(x0:Int)<9):((1+x0):Int)≤1000000000000:=by lia
theorem zo171{x2:Int}{n0 n1 n3:Nat}(h0:(n0:Nat)≤n1)(h1:(x2:Int)<(n0:Int))(h2:(n3:Nat)=n0)(h3:(n1:Nat)<(2^63)):¬((x2:Int)≥(2^63)):=by lia
theorem zo172{x0 x1:Int}(h0:(0:Int)≤x0)(h1:(0:Int)≤x1)(h2:(x1:Int)≠x0)(h3:¬((x0:Int)<x1)):(0:Int)<x0:=by lia
theorem zo173{x0:Int}{n1:Nat}(h0:((1:Int)≤x0)∧((x0:Int)≤(n1:Int))):(((((Int.toNat (x0-1))+1):Nat):Int):Int)=x0:=by lia
theorem zo174{n0 n1 n2:Nat}(h0:((n0+(n1+1)):Nat)=n2):(((n0+1)+n1):Nat)=n2:=by lia
theorem zo175{x0:Int}(h0:(1:Int)≤x0):(x0:Int)=((((Int.toNat (x0-1))+1):Nat):Int):=by lia
theorem uO{n0:Nat}(h0:(1:Nat)≤n0)(h1:(n0:Nat)≤100):(0:Int)<(n0:Int):=by lia
theorem zo177{n0 n1:Nat}(h0:(3:Nat)≤n0)(h1:(n0:Nat)≤61)(h2:(n1:Nat)<n0)(h3:¬(((n1+1):Nat)<n0)):((((0+(n1:Int))-(n0:Int))+1):Int)<(n0:Int):=by lia
theorem uP{n0:Nat}(h0:(n0:Nat)≤23):((-(2^62)):Int)≤((n0:Int)+1):=by lia
theorem t_{n0 n1 n2:Nat}(h0:(n0:Nat)≤n1)(h1:(n2:Nat)=n0):(n2:Nat)≤n1:=by lia
theorem zo180{n0 n1 n2 n3 n4:Nat}(h0:(n0:Nat)=n1)(h1:(n2:Nat)=n1)(h2:(n0:Nat)=n3)(h3:(n4:Nat)<n3):(n4:Nat)<n0:=by lia
theorem zo181{x0:Int}(h0:(0:Int)<x0):((x0-1):Int)=(((Int.toNat (x0-1)):Nat):Int):=by lia
theorem zo182{n0 n1:Nat}(h0:(n0:Nat)=n1)(h1:(n1:Nat)<27):((2+(n1:Int)):Int)≤1000:=by lia
theorem zo183{x0:Int}:((-(2^64)):Int)<(((x0*48271)+11)%2147483647):=by lia
theorem uu{n0 n1 n2:Nat}(h0:(n0:Nat)=n1)(h1:(n2:Nat)<n0):(n2:Nat)<n1:=by lia
theorem pH{n0 n1:Nat}(h0:¬((n0:Nat)<n1)):(n1:Nat)≤n0:=by lia
theorem zo186{n0 n1:Nat}(h0:(n0:Nat)=n1)(h1:(n1:Nat)<23):(0:Int)<((0+(n1:Int))+1):=by lia
theorem u7{x0 x1:Int}(h0:(x0:Int)<x1):¬((x0:Int)>x1):=by lia
theorem zo188{x0:Int}(h0:(0:Int)≤x0)(h1:(x0:Int)<3):((1+x0):Int)≤1000000:=by lia
theorem zo189{n0:Nat}:((((2*n0)+1)/2):Nat)=n0:=by lia
theorem zo190{x0:Int}(h0:((1:Int)≤x0)∧((x0:Int)≤1000000000000)):(0:Int)<x0:=by lia
theorem uv{n0 n1:Nat}(h0:(n0:Nat)<n1):((n0+1):Nat)<(n1+1):=by lia
theorem zo192{n0 n1 n2 n3:Nat}(h0:(n0:Nat)≤n1)(h1:(((n2+(3*n1))+5):Nat)<n3):(((n2+(3*n0))+5):Nat)<n3:=by lia
theorem zo193{n0 n1 n2 n3:Nat}(h0:(n0:Nat)≤n1)(h1:(((n2+(16*n1))+200):Nat)<n3):(((n2+(16*n0))+200):Nat)<n3:=by lia
theorem zo194{x2:Int}{n0 n1:Nat}(h0:(n0:Nat)=n1)(h1:(x2:Int)≤(n1:Int)):(x2:Int)≤(n0:Int):=by lia
theorem zo195{n0 n1:Nat}:(3:Nat)≤(((n0+1)+1)+(n1+1)):=by lia
theorem t7{x0:Int}{n1:Nat}(h0:(x0:Int)<(1+(n1:Int))):(x0:Int)≤(n1:Int):=by lia
theorem zo197{n0 n1:Nat}(h0:(n0:Nat)=n1)(h1:(n1:Nat)<23):(n0:Nat)<1000:=by lia
theorem sk{n0:Nat}(h0:(n0:Nat)≤23):(n0:Nat)≤1000:=by lia
theorem zo199{n0 n1 n2:Nat}(h0:(n0:Nat)≤n1)(h1:((n1-n0):Nat)<n2):(n1:Nat)<(n0+n2):=by lia
theorem zo200{x0:Int}:((((x0*48271)+11)%2147483647):Int)<(2^64):=by lia
theorem zo201{n0:Nat}(h0:(n0:Nat)<3):(0:Int)≤(0+(n0:Int)):=by lia
theorem zo202{x0 x2 x3:Int}{n1:Nat}(h0:(x0:Int)<(1+(n1:Int)))(h1:(x2:Int)<(n1:Int))(h2:(x0:Int)=x3):((((x0+1)+x2)-(1+(n1:Int))):Int)<(1+(n1:Int)):=by lia
theorem zo203{n0 n1:Nat}(h0:(n0:Nat)<n1):¬((((((2*n0)+1)%2):Nat)=1)∧((n1:Nat)≤(((2*n0)+1)/2))):=by lia
theorem zo204{n0 n1 n2 n3:Nat}(h0:((n0:Int):Int)=(n1:Int))(h1:((n2:Int):Int)=(n3:Int))(h2:(n1:Nat)=n3):((n0:Int):Int)=(n2:Int):=by lia
theorem zo205{n0:Nat}(h0:(3:Nat)≤n0)(h1:(n0:Nat)≤61):((Int.toNat (n0:Int)):Nat)=n0:=by lia
theorem tX{x0:Int}(h0:(0:Int)≤x0):((-(2^62)):Int)≤(1+x0):=by lia
theorem zo207{n0 n1:Nat}(h0:(n0:Nat)<(Int.toNat (((n1:Int)+1)-1))):((1+(n0:Int)):Int)≤(n1:Int):=by lia
theorem zo208{n0 n1 n2:Nat}(h0:(((n0+(16*(n1+1)))+200):Nat)<n2):((((n0+3)+(16*n1))+200):Nat)<n2:=by lia
theorem zo209{n0 n1:Nat}(h0:(3:Nat)≤n0)(h1:(n0:Nat)≤61)(h2:(n1:Nat)<(Int.toNat (n0:Int))):(n1:Nat)<n0:=by lia
theorem zo210{n0 n1:Nat}(h0:(n0:Nat)<n1):((n0+(n1-n0)):Nat)=n1:=by lia
theorem zo211{n0 n1 n2:Nat}(h0:(((n0+(3*(n1+1)))+5):Nat)<n2):((((n0+1)+(3*n1))+5):Nat)<n2:=by lia
theorem zo212{x0:Int}{n1:Nat}(h0:(x0:Int)≤(((n1+1):Nat):Int))(h1:¬((x0:Int)=((n1:Int)+1))):(x0:Int)≤(n1:Int):=by lia
theorem zo213{x0:Int}{n1:Nat}(h0:(0:Int)<x0)(h1:(x0:Int)≤(n1:Int)):((Int.toNat (x0-1)):Nat)<n1:=by lia
theorem zo214{n0 n1 n2:Nat}(h0:((n0+n1):Nat)≤23)(h1:((n2+n1):Nat)≤23):(((n0+n2)+1):Nat)≤1000:=by lia
theorem uM{n0:Nat}(h0:(3:Nat)≤n0)(h1:(n0:Nat)≤61):(0:Nat)<n0:=by lia
theorem zo216{n0:Nat}(h0:(n0:Nat)<3):((0+(n0:Int)):Int)<((3:Nat):Int):=by lia
theorem t8{n0 n1:Nat}(h0:(n0:Nat)<n1):((1+(n0:Int)):Int)≤(n1:Int):=by lia
theorem zo218{n0 n1 n2:Nat}(h0:(n0:Nat)≤n1)(h1:(n2:Nat)=n0)(h2:¬((n0:Nat)<n1)):(n0:Nat)=n1:=by lia
theorem zo219{n0 n1:Nat}(h0:(n0:Nat)=(Int.toNat ((if (29:Int)<(n1:Int) then 29 else (n1:Int))-2)))(h1:(n0:Nat)≤27):(n0:Nat)≤30:=by lia
theorem zo220{n0 n1 n2:Nat}(h0:(n0:Nat)≤n1)(h1:(n0:Nat)=(n2+1)):(n2:Nat)≤n1:=by lia
theorem zo221{n0 n1 n2:Nat}(h0:(n0:Nat)=n1)(h1:(n1:Nat)=n2):(n0:Nat)=n2:=by lia
theorem ue{n0:Nat}(h0:(n0:Nat)≤23):(((n0:Int)+1):Int)<(2^62):=by lia
theorem zo223{x0:Int}{n1:Nat}(h0:((1:Int)≤x0)∧((x0:Int)≤(n1:Int))):((Int.toNat (x0-1)):Nat)<n1:=by lia
theorem ud{n0:Nat}:¬(((2*n0):Nat)=1):=by lia
theorem zo225{x0:Int}{n1:Nat}(h0:(0:Int)≤x0)(h1:((n1:Int):Int)≤x0):(n1:Nat)≤(Int.toNat x0):=by lia
theorem uD{x0:Int}{n1:Nat}(h0:¬(((Int.toNat x0):Nat)≤n1)):(n1:Nat)≤(Int.toNat x0):=by lia
theorem vf{x0 x1:Int}(h0:(x0:Int)<x1):¬((x0:Int)=x1):=by lia
theorem zo228{n0 n1:Nat}(h0:(n0:Nat)≤23)(h1:(n1:Nat)<n0):(n1:Nat)<23:=by lia
theorem zo229{n0 n1:Nat}(h0:(3:Nat)≤n0)(h1:(n0:Nat)≤61)(h2:(n1:Nat)<n0)(h3:¬(((n1+1):Nat)<n0)):(0:Nat)<n0:=by lia
theorem zo230{n0 n1:Nat}(h0:(n0:Nat)=n1)(h1:(n1:Nat)<27):(n0:Nat)<1000:=by lia
theorem zo231{x0 x1 x2:Int}(h0:((0:Int)≤x0)∧((x0:Int)<x1))(h1:((0:Int)≤x2)∧((x2:Int)≤x0)):((0:Int)≤x2)∧((x2:Int)≤x1):=by lia
theorem zo232{n0 n1:Nat}(h0:(n0:Nat)<n1)(h1:¬(((n0+1):Nat)<n1)):(0:Int)≤(((0+(n0:Int))-(n1:Int))+1):=by lia
theorem zo233{n0 n1 n2:Nat}(h0:(n0:Nat)≤23)(h1:(n1:Nat)=n0)(h2:(n2:Nat)≤n0):(n2:Nat)≤23:=by lia
theorem uz{n0:Nat}:((((n0:Int)+1)-1):Int)=(n0:Int):=by lia
theorem zo235{x0 x1 x3:Int}{n2:Nat}(h0:((0:Int)≤x0)∧((x0:Int)<x1))(h1:((n2:Int):Int)≤(x3+x0)):(((n2:Int)+1):Int)≤(x1+x3):=by lia
theorem zo236{n0 n1 n2:Nat}(h0:(n0:Nat)≤n1)(h1:(n1:Nat)<n2):(n0:Nat)<n2:=by lia
theorem zo237{x0 x1 x3:Int}{n2:Nat}(h0:((0:Int)≤x0)∧((x0:Int)<x1))(h1:((n2:Int):Int)≤(x3+x0)):(((n2:Int)+1):Int)≤(x3+x1):=by lia
theorem zo238{n0:Nat}(h0:(n0:Nat)≤23):((Int.toNat (((n0:Int)+1)-1)):Nat)≤1000:=by lia
theorem zo239{n0 n1 n2:Nat}(h0:((n0+n1):Nat)≤23)(h1:((n2+n1):Nat)≤23):((n0+n2):Nat)≤1000:=by lia
theorem zo240{n0 n1 n2:Nat}(h0:((n0:Int):Int)=(n1:Int))(h1:(n1:Nat)=n2)(h2:(1:Nat)≤n1)(h3:(n1:Nat)≤23):(1:Int)≤(n0:Int):=by lia
theorem tY{n0 n1:Nat}(h0:(n0:Nat)<n1):(n0:Nat)<(n1+1):=by lia
theorem zo242{x0:Int}(h0:(1:Int)≤x0)(h1:(x0:Int)≤1000000):(0:Int)<x0:=by lia
theorem zo243{n0 n1 n2:Nat}(h0:((n0-n1):Nat)=(n2+1)):¬((n0:Nat)=n1):=by lia
theorem zo244{x0:Int}(h0:((1:Int)≤x0)∧((x0:Int)≤1000000)):(0:Int)<x0:=by lia
theorem zo245{n0 n1 n2:Nat}(h0:(n0:Nat)≤n1)(h1:(n1:Nat)≤n2):(n0:Nat)≤n2:=by lia
theorem zo246{x0:Int}{n1:Nat}(h0:(0:Int)≤x0)(h1:(x0:Int)<((n1:Int)+1)):((0:Int)≤x0)∧((x0:Int)≤(n1:Int)):=by lia
theorem zo247{n0 n1 n2:Nat}(h0:(((n0+(16*n1))+200):Nat)<n2):((n0+64):Nat)<n2:=by lia
theorem zo248{n0:Nat}:(3:Nat)≤(0+(((n0+1)+1)+1)):=by lia
theorem zo249{n0 n1 n2:Nat}(h0:((n0:Int):Int)=(n1:Int))(h1:(n1:Nat)=n2)(h2:(1:Nat)≤n1)(h3:(n1:Nat)≤23):((n0:Int):Int)≤23:=by lia
theorem zo250{x3:Int}{n0 n1 n2:Nat}(h0:(n0:Nat)=n1)(h1:(n2:Nat)=n1)(h2:(x3:Int)≤(n1:Int)):(x3:Int)≤(n0:Int):=by lia
theorem zo251{x0:Int}{n1:Nat}(h0:(x0:Int)≤(((n1+1):Nat):Int))(h1:¬((x0:Int)=(1+(n1:Int)))):(x0:Int)≤(n1:Int):=by lia
theorem zo252{x0 x1 x2:Int}{n3:Nat}(h0:(x0:Int)=x1)(h1:¬((((x0+1)+x2):Int)<(1+(n3:Int)))):(0:Int)≤(((x0+1)+x2)-(1+(n3:Int))):=by lia
theorem zo253{n0:Nat}(h0:((n0%2):Nat)=0):(((n0:Int)%2):Int)=0:=by lia
theorem zo254{n0 n1 n2 n3:Nat}(h0:(n0:Nat)=n1)(h1:(n2:Nat)=n1)(h2:(n3:Nat)<n2):(((n3:Int)+1):Int)≤(n0:Int):=by lia
theorem zo255{n0 n1 n2:Nat}(h0:(n0:Nat)≤23)(h1:(n1:Nat)≤n0)(h2:(n2:Nat)<n1):(n2:Nat)≤23:=by lia
theorem zo256{x0 x2:Int}{n1:Nat}(h0:(x0:Int)=(n1:Int))(h1:(x2:Int)<(x0+1)):(x2:Int)<(1+(n1:Int)):=by lia
theorem zo257{n0 n1:Nat}(h0:(n0:Nat)<n1):((n1-n0):Nat)≠0:=by lia
theorem zo258{x0 x2 x3:Int}{n1:Nat}(h0:(x0:Int)<(n1:Int))(h1:(x2:Int)=x3)(h2:(x3:Int)=(((x2+1)+x0)-(1+(n1:Int)))):False:=by lia
theorem zo259{x0 x1:Int}(h0:¬((x0:Int)<x1))(h1:¬((x1:Int)<x0)):(x1:Int)=x0:=by lia
theorem zo260{x0 x1:Int}(h0:(0:Int)≤x0)(h1:(x1:Int)≤1000):((Int.toNat (x1-x0)):Nat)≤1000:=by lia
theorem zo261{n0 n1 n2:Nat}(h0:((n0+n1):Nat)≤23)(h1:((n2+n1):Nat)≤23):(n2:Nat)≤1000:=by lia
theorem zo262{n0 n1 n2:Nat}(h0:(((n0+(3*n1))+5):Nat)<n2):(n0:Nat)<n2:=by lia
theorem zo263{n0:Nat}:(3:Nat)≤((0+1)+((n0+1)+1)):=by lia
theorem zo264{x0:Int}{n1:Nat}(h0:(x0:Int)=(n1:Int)):((x0+1):Int)=(1+(n1:Int)):=by lia
theorem zo265{x1:Int}{n0 n2:Nat}(h0:((-(n0:Int)):Int)≤x1)(h1:(n0:Nat)=n2):((-(n2:Int)):Int)≤x1:=by lia
theorem zo266{x0 x2:Int}{n1:Nat}(h0:(x0:Int)=(n1:Int))(h1:(x2:Int)<x0):(x2:Int)<(n1:Int):=by lia
theorem uU{x0 x1 x2:Int}(h0:(x0:Int)<x1)(h1:(x1:Int)≤x0):(x1:Int)≤x2:=by lia
theorem zo268{x0 x1:Int}(h0:(0:Int)≤x0)(h1:(0:Int)≤x1)(h2:(x1:Int)<x0):(0:Int)≤(x0-1):=by lia
theorem zo269{x0 x1:Int}(h0:(x0:Int)≠x1)(h1:¬((x0:Int)<x1)):(x1:Int)<x0:=by lia
theorem zo270{x0 x1 x2:Int}(h0:(0:Int)≤x0)(h1:(0:Int)≤x1)(h2:(x0:Int)=x2):(0:Int)≤((x0+1)+x1):=by lia
theorem zo271{n0:Nat}(h0:(n0:Nat)<40):(0:Int)≤(800+(1+(n0:Int))):=by lia
theorem zo272{n0 n1 n2:Nat}(h0:(n0:Nat)≤23)(h1:(n1:Nat)=n0)(h2:(n2:Nat)=n0):(n2:Nat)≤1000:=by lia
theorem zo273{x0 x1:Int}(h0:(0:Int)≤x0)(h1:(x1:Int)≤1000):((Int.toNat (x1-x0)):Nat)≤(2^24):=by lia
theorem zo274{n0 n1 n2:Nat}(h0:(n0:Nat)≤1000)(h1:(n1:Nat)=n2)(h2:(n2:Nat)<n0):(n1:Nat)≤1000:=by lia
theorem zo275{n0:Nat}(h0:(((n0:Int)%2):Int)=0):((n0%2):Nat)=0:=by lia
theorem uH{n0:Nat}:(0:Nat)<(n0+1):=by lia
theorem zo277{x0 x1 x2:Int}(h0:(x0:Int)=x1)(h1:(x2:Int)=x1):(x0:Int)=x2:=by lia
theorem zo278{n0 n1:Nat}(h0:(n0:Nat)≤46)(h1:(n1:Nat)≤46):((n0+n1):Nat)≤1000:=by lia
theorem zo279{n0:Nat}(h0:(n0:Nat)=3):(n0:Nat)≤3:=by lia
theorem zo280{n0 n1:Nat}(h0:((2*n0):Nat)=((2*n1)+1)):False:=by lia
theorem uA{n0:Nat}:(n0:Nat)<(n0+1):=by lia
theorem zo282{n0:Nat}(h0:(n0:Nat)<40):(0:Int)≤(1+(n0:Int)):=by lia
theorem zo283{n0 n1 n2:Nat}(h0:((n0+n1):Nat)≤n2):((n0+n1):Nat)≤(n2+1):=by lia
theorem zo284{n0:Nat}(h0:(n0:Nat)<40):((800+(1+(n0:Int))):Int)≤1000:=by lia
theorem zo285{n0 n1:Nat}:¬((((2*n0)+1):Nat)=(2*n1)):=by lia
theorem uI{x0:Int}(h0:(1:Int)≤x0):(0:Int)≤(x0-1):=by lia
theorem zo287{n0 n1:Nat}(h0:((n0+1):Nat)<n1):¬((0:Int)≤(((0+(n0:Int))-(n1:Int))+1)):=by lia
theorem zo288{n0:Nat}:((2*(0+n0)):Nat)=(2*n0):=by lia
theorem t9{n0:Nat}(h0:(n0:Nat)≤30):(n0:Nat)≤1000:=by lia
theorem zo290{x0:Int}(h0:(0:Int)<x0):(1:Int)≤x0:=by lia
theorem zo291{n0:Nat}(h0:(n0:Nat)≤23):((0:Int)≤1)∧(((1:Int)≤((n0:Int)+1))∧((((n0:Int)+1):Int)≤1000)):=by lia
theorem zo292{x0:Int}{n1:Nat}(h0:(x0:Int)=(n1:Int))(h1:(n1:Nat)≤23)(h2:(1:Nat)≤n1):(0:Int)<x0:=by lia
theorem zo293{n0 n1:Nat}:((-(n0:Int)):Int)≤(((0+(n1:Int))-(n0:Int))+1):=by lia
theorem zo294{n0:Nat}(h0:(3:Int)≤(n0:Int)):(3:Nat)≤n0:=by lia
theorem zo295{n0 n1 n2:Nat}(h0:(n0:Nat)<n1)(h1:(n0:Nat)=n2):((n0+1):Nat)≤n1:=by lia
theorem zo296{n0 n1:Nat}(h0:(n0:Nat)≤1000)(h1:(n1:Nat)=n0):((n1+1):Nat)<4096:=by lia
theorem zo297{n0 n1 n2 n3:Nat}(h0:((2*n0):Nat)=n1)(h1:(n1:Nat)=((2*n2)+1)):(0:Nat)=(n3+1):=by lia
theorem zo298{n0 n1 n2 n3:Nat}(h0:((2*n0):Nat)=n1)(h1:(n1:Nat)=((2*n2)+1)):((n3+1):Nat)=0:=by lia
theorem zo299{n0:Nat}:¬(((((2*n0)+1)%2):Nat)=0):=by lia
theorem zo300{n0 n1:Nat}(h0:(n0:Nat)<64)(h1:(n1:Nat)=n0):(n0:Nat)≤1000:=by lia
theorem zo301{n0:Nat}(h0:(n0:Nat)=3):(0:Nat)<n0:=by lia
theorem zo302{x0 x1 x2 x3:Int}(h0:(x0:Int)<x1)(h1:((0:Int)≤x2)∧(((x2:Int)≤x3)∧((x2:Int)≤x0))):(x2:Int)<x1:=by lia
theorem zo303{n0:Nat}(h0:(0:Nat)<n0):((n0-1):Nat)<n0:=by lia
theorem zo304{n0 n1:Nat}(h0:((n0:Int):Int)=(n1:Int)):(n0:Nat)=n1:=by lia
theorem zo305{x0:Int}(h0:(0:Int)≤x0)(h1:¬((x0:Int)=0)):(0:Int)<x0:=by lia
theorem zo306{x0:Int}(h0:(0:Int)<x0):(0:Int)≤(x0-1):=by lia
theorem zo307{n0 n1:Nat}:(((n0+n1)+1):Nat)=((n0+1)+n1):=by lia
theorem zo308{n0 n1:Nat}:¬(((((2*n0)%2):Nat)=1)∧((n1:Nat)≤((2*n0)/2))):=by lia
theorem zo309{n0 n1:Nat}(h0:(n0:Nat)=n1):(n1:Nat)=n0:=by lia
theorem zo310{n0 n1:Nat}(h0:¬(((n0:Int):Int)=(n1:Int))):¬((n0:Nat)=n1):=by lia
theorem zo311{n0 n1:Nat}(h0:(n0:Nat)≠n1):((n0+1):Nat)≠(n1+1):=by lia
theorem zo312{x0:Int}{n1:Nat}(h0:(x0:Int)≤(n1:Int))(h1:((x0-1):Int)=(((Int.toNat (x0-1)):Nat):Int)):((Int.toNat (x0-1)):Nat)<n1:=by lia
theorem zo313{n0 n1:Nat}(h0:(n0:Nat)<64)(h1:(n1:Nat)=n0):(n1:Nat)<64:=by lia
theorem zo314{n0 n1:Nat}(h0:(n0:Nat)<n1)(h1:¬(((n0+1):Nat)<n1)):(0:Nat)<n1:=by lia
theorem zo315{n0 n1:Nat}(h0:((n0+1):Nat)=(n1+1)):(n0:Nat)=n1:=by lia
theorem zo316{n0:Nat}(h0:(3:Nat)≤n0)(h1:(n0:Nat)≤61):((-(2^62)):Int)≤(n0:Int):=by lia
theorem zo317{x0 x1:Int}(h0:(x0:Int)<x1):(x0:Int)≤x1:=by lia
theorem zo318{n0 n1 n2:Nat}(h0:(n0:Nat)<n1)(h1:(n0:Nat)=n2):(n2:Nat)≤n1:=by lia
theorem zo319{x0:Int}{n1:Nat}(h0:¬((0:Int)≤x0))(h1:((-(n1:Int)):Int)≤x0):(x0:Int)<(n1:Int):=by lia
theorem zo320{n0:Nat}(h0:(n0:Nat)≤27):(0:Int)<((n0:Int)+1):=by lia
theorem zo321{n0 n1:Nat}(h0:(n0:Nat)=n1):(n1:Nat)≤n0:=by lia
theorem zo322{n0 n1:Nat}(h0:(n0:Nat)=n1):(n0:Nat)≤n1:=by lia
theorem zo323{n0 n1 n2:Nat}(h0:(n0:Nat)=n1)(h1:(n1:Nat)≤n2):(n0:Nat)≤n2:=by lia
theorem zo324{n0 n1:Nat}:((n0+(n1+1)):Nat)=((n0+1)+n1):=by lia
theorem zo325{x0 x1:Int}:((x0+x1):Int)=(x1+x0):=by lia
theorem zo326{n0 n1:Nat}(h0:(n0:Nat)<n1):(((n0:Int)+1):Int)≤(n1:Int):=by lia
theorem zo327{n0:Nat}(h0:(3:Nat)≤n0)(h1:(n0:Nat)≤61):(n0:Nat)≤1000:=by lia
theorem zo328{n0:Nat}(h0:(n0:Nat)≤1000)(h1:(3:Nat)≤n0)(h2:((n0:Int):Int)≤61):(n0:Nat)≤61:=by lia
theorem zo329{n0 n1:Nat}(h0:(n0:Nat)≤23)(h1:(n1:Nat)=n0):(n1:Nat)≤1000:=by lia
theorem zo330{n0:Nat}(h0:(1:Nat)≤n0)(h1:(n0:Nat)≤23):(0:Int)<((n0:Int)+1):=by lia
theorem zo331{n0:Nat}(h0:((n0:Int):Int)=2):(n0:Nat)=2:=by lia
theorem zo332{n0 n1 n2:Nat}(h0:(n0:Nat)<n1)(h1:(n1:Nat)≤n2)(h2:(n0:Nat)=n2):False:=by lia
theorem zo333{x0 x1:Int}(h0:(0:Int)≤x0)(h1:(x0:Int)≤x1):((-(2^62)):Int)≤x1:=by lia
theorem zo334{x0:Int}(h0:(0:Int)≤x0)(h1:(x0:Int)≤((0:Nat):Int)):(x0:Int)=0:=by lia
theorem zo335{n0 n1:Nat}(h0:((n0+n1):Nat)≤23):(n0:Nat)<1000:=by lia
theorem zo336{n0 n1:Nat}(h0:(n0:Nat)=16777216)(h1:(n1:Nat)≤n0):¬(((n1:Int):Int)≥(2^63)):=by lia
theorem zo337{n0:Nat}(h0:(n0:Nat)≤1000)(h1:(3:Int)≤(n0:Int)):(3:Nat)≤n0:=by lia
theorem zo338{x0:Int}(h0:(x0:Int)=0):((0:Int)≤x0)∧((x0:Int)≤0):=by lia
theorem zo339{n0 n1:Nat}:((2*n0):Nat)≠((2*n1)+1):=by lia
theorem zo340{n0:Nat}:(1:Nat)≤(n0+1):=by lia
theorem zo341{n0 n1:Nat}(h0:(n0:Nat)=16777216)(h1:(n1:Nat)≤n0):(n1:Nat)≤1099511627776:=by lia
theorem zo342{n0:Nat}(h0:(n0:Nat)≤1000)(h1:((n0:Int):Int)<3):¬((3:Nat)≤n0):=by lia
theorem zo343{n0:Nat}(h0:(n0:Nat)≤30):((23*n0):Nat)≤690:=by lia
theorem zo344{n0 n1:Nat}(h0:((n0+1):Nat)<(n1+1)):(n0:Nat)<n1:=by lia
theorem zo345{n0:Nat}:((0+n0):Nat)=n0:=by lia
theorem zo346{x0:Int}(h0:(0:Int)<x0):((0:Int)≤x0)∧((x0:Int)≤x0):=by lia
theorem zo347{n0:Nat}(h0:(3:Nat)≤n0)(h1:(n0:Nat)≤61):((n0:Int):Int)<(2^62):=by lia
theorem zo348{x0:Int}{n1:Nat}(h0:(x0:Int)≤((n1:Int)-1)):(x0:Int)<(n1:Int):=by lia
theorem zo349{x0 x1:Int}:((x0+x1):Int)=(x0+x1):=by lia
theorem zo350{x0:Int}(h0:(0:Int)≤x0):((0:Int)≤x0)∧(((x0:Int)≤x0)∧((x0:Int)≤x0)):=by lia
theorem zo351{x0 x1:Int}(h0:(x0:Int)≤x1)(h1:(x1:Int)≤1000):(x0:Int)<(2^62):=by lia
theorem zo352{x0:Int}{n1:Nat}(h0:(0:Int)≤x0):((-(n1:Int)):Int)≤x0:=by lia
theorem zo353{n0:Nat}:((-(((n0+1):Nat):Int)):Int)≤(-1):=by lia
theorem zo354{n0:Nat}(h0:(n0:Nat)<4096):((n0:Int):Int)<(2^63):=by lia
theorem zo355{x0:Int}(h0:(0:Int)<x0)(h1:(x0:Int)<1073741824):(0:Int)≤x0:=by lia
theorem zo356{n0:Nat}(h0:(n0:Nat)≤1000)(h1:(61:Int)<(n0:Int)):¬((n0:Nat)≤61):=by lia
theorem zo357{n0 n1:Nat}(h0:(n0:Nat)=(n1+(n0+1))):False:=by lia
theorem zo358{n0:Nat}:(0:Int)<((n0:Int)+1):=by lia
theorem zo359{n0 n1:Nat}:(n0:Nat)≤(n0+n1):=by lia
theorem zo360{x0 x1:Int}(h0:¬((x0:Int)≤x1)):(x1:Int)≤x0:=by lia
theorem zo361{n0 n1:Nat}(h0:(n0:Nat)≤n1):(((n0:Int)-(n1:Int)):Int)≤0:=by lia
theorem zo362{x0 x1:Int}(h0:(0:Int)≤x0)(h1:(x1:Int)=((x1+1)+x0)):False:=by lia
theorem zo363{n0:Nat}:((n0+(0+1)):Nat)≤(n0+1):=by lia
theorem zo364{x0:Int}(h0:(0:Int)<x0)(h1:(x0:Int)<1073741824):(x0:Int)≠0:=by lia
theorem zo365{n0 n1:Nat}(h0:(n0:Nat)<n1)(h1:((1+n0):Nat)<n1)(h2:(n0:Nat)=(1+n0)):False:=by lia
theorem zo366{x0:Int}(h0:(0:Int)≤x0):((-(2^62)):Int)≤x0:=by lia
theorem zo367{n0 n1:Nat}(h0:(n0:Nat)≤n1):¬((n0:Nat)>n1):=by lia
theorem zo368{n0:Nat}(h0:(0:Nat)<n0):((-(n0:Int)):Int)≤(-1):=by lia
theorem zo369{x0:Int}(h0:(1:Int)≤x0):(0:Int)≤x0:=by lia
theorem zo370{n0:Nat}:(0:Int)<(1+(n0:Int)):=by lia
theorem zo371{x0:Int}(h0:(x0:Int)≤1000):(x0:Int)<(2^62):=by lia
theorem zo372{n0:Nat}:(n0:Nat)≤(n0+1):=by lia
theorem zo373{n0:Nat}:(0:Nat)≠(n0+1):=by lia
theorem zo374{x0:Int}(h0:(0:Int)<x0):(0:Int)≤x0:=by lia
theorem zo375{x0:Int}(h0:(1:Int)≤x0)(h1:(x0:Int)≤((0:Nat):Int)):¬((1:Int)≤x0):=by lia
theorem zo376{n0:Nat}:¬(((n0:Int):Int)<0):=by lia
theorem zo377{n0:Nat}:((1+(n0:Int)):Int)≠0:=by lia
theorem zo378:((-(2^62)):Int)≤0:=by lia
theorem zo379{x0:Int}(h0:(0:Int)<x0):(x0:Int)≠0:=by lia
theorem zo380:(0:Int)<(2^62):=by lia
theorem zo381{x0:Int}{n1:Nat}(h0:(0:Int)<0):((x0+1):Int)=(n1:Int):=by lia
theorem zo382:(690:Nat)≤900:=by lia
theorem zo383{n0 n1 n2:Nat}(h0:(0:Int)<0):(n0:Nat)=(n1+n2):=by lia
theorem zo384:¬((0:Int)≤(-1)):=by lia
theorem rc{x0:Int}{n1:Nat}(h0:(x0:Int)<(n1:Int)):(x0:Int)<(n1:Int):=by lia
theorem uR{n0 n1 n2:Nat}(h0:((n0+n1):Nat)≤n2):((n0+n1):Nat)≤n2:=by lia
theorem vd{n0 n1:Nat}(h0:(n0:Nat)≤n1):(n0:Nat)≤n1:=by lia
theorem uX{x0:Int}{n1:Nat}(h0:(x0:Int)≤(n1:Int)):(x0:Int)≤(n1:Int):=by lia
theorem uW{x0 x1:Int}(h0:(x0:Int)≤x1):(x0:Int)≤x1:=by lia
theorem zo390{n0:Nat}(h0:(n0:Nat)≤1000):(n0:Nat)≤1000:=by lia
theorem zo391{n0 n1:Nat}(h0:(n0:Nat)<(Int.toNat (((n1:Int)+1)-1))):(n0:Nat)<(Int.toNat (((n1:Int)+1)-1)):=by lia
theorem PySem.W.Fast.te3912900016580978532:True:=trivial
def PySem.W.Fast.tw3912900016580978532:Nat:=0
theorem PySem.W.Fast.te13270246260158289261:True:=trivial
def PySem.W.Fast.tw13270246260158289261:Nat:=0
def PySem.W.Fast.tw11987080710551816020:PySem.Program:=PySem.Challenge.pw_treeasks_k47_pointed_told
theorem PySem.W.Fast.te11987080710551816020:PySem.Challenge.pw_treeasks_k47_pointed_told = PySem.W.Fast.tw11987080710551816020:=rfl
namespace L2
open PySem PySem.Spec PyProof.Rows
abbrev Key:=Sum Int Str
def jw:Key → Value → Bool
  | .inl k,v=>Value.isInt k v
  | .inr x,v=>Value.isStrOf x v
def keyH (w:World):Key → Int
  | .inl k=>hashInt k
  | .inr x=>hashStr w x
theorem bF:∀ {k:Key} {v:Value},jw k v = true → (∃ i t,k = Sum.inl i ∧ v = Value.int i t) ∨ (∃ x t,k = Sum.inr x ∧ v = Value.str x t)
  | .inl i,v,h=>by
    obtain ⟨t,e⟩:=Value.isInt_shape (k:=i) (v:=v) h
    exact .inl ⟨i,t,rfl,e⟩
  | .inr x,v,h=>by
    obtain ⟨t,e⟩:=Value.isStrOf_shape (x:=x) (v:=v) h
    exact .inr ⟨x,t,rfl,e⟩
theorem oV (i:Int) (t:Tok):jw (.inl i) (.int i t) = true:=by simp [jw,Value.isInt]
theorem ph (x:Str) (t:Tok):jw (.inr x) (.str x t) = true:=by simp [jw,Value.isStrOf]
theorem vN (a b:Int):decide ((Sum.inl a:Key) = Sum.inl b) = (a == b):=by
  by_cases e:a = b
  · subst e; simp
  · have h : ¬ (Sum.inl a:Key) = Sum.inl b:=fun q=>e (Sum.inl.inj q)
    rw [decide_eq_false h]
    exact (beq_eq_false_iff_ne.mpr e).symm
theorem vH (a b:Str):decide ((Sum.inr a:Key) = Sum.inr b) = decide (a = b):=by
  by_cases e:a = b
  · subst e; simp
  · have h : ¬ (Sum.inr a:Key) = Sum.inr b:=fun q=>e (Sum.inr.inj q)
    rw [decide_eq_false h,decide_eq_false e]
theorem vO (a:Int) (b:Str):decide ((Sum.inl a:Key) = Sum.inr b) = false:=decide_eq_false (fun q=>nomatch q)
theorem wa (a:Str) (b:Int):decide ((Sum.inr a:Key) = Sum.inl b) = false:=decide_eq_false (fun q=>nomatch q)
def bL (prog:Program) (w:World):PySem.KeyKind prog w Key where
  is:=jw
  hash:=keyH w
  inj:=fun v a b ha hb=>by
    rcases bF ha with ⟨i,t,rfl,rfl⟩ | ⟨x,t,rfl,rfl⟩
    · rcases bF hb with ⟨j,u,rfl,e⟩ | ⟨y,u,rfl,e⟩
      · injection e with e1 _; rw [e1]
      · exact nomatch e
    · rcases bF hb with ⟨j,u,rfl,e⟩ | ⟨y,u,rfl,e⟩
      · exact nomatch e
      · injection e with e1 _; rw [e1]
  byValue:=fun k v h=>by
    rcases bF h with ⟨i,t,rfl,rfl⟩ | ⟨x,t,rfl,rfl⟩ <;> rfl
  pyHash:=fun hv h=>by
    rcases bF hv with ⟨i,t,rfl,rfl⟩ | ⟨x,t,rfl,rfl⟩
    · exact wpAny_pyHash_int h
    · exact wpAny_pyHash_str h
  eqBool:=fun hu hv h=>by
    rcases bF hu with ⟨i,t,rfl,rfl⟩ | ⟨x,t,rfl,rfl⟩
    · rcases bF hv with ⟨j,u,rfl,rfl⟩ | ⟨y,u,rfl,rfl⟩
      · rw [vN] at h; exact wpAny_eqBool_int h
      · rw [vO] at h; exact SeqAt.EqAt.int_str i t y u _ _ _ _ h
    · rcases bF hv with ⟨j,u,rfl,rfl⟩ | ⟨y,u,rfl,rfl⟩
      · rw [wa] at h; exact SeqAt.EqAt.str_int x t j u _ _ _ _ h
      · rw [vH] at h; exact wpAny_eqBool_str h
  «strs»:=fun k x t v h=>by
    rcases bF h with ⟨i,u,rfl,e⟩ | ⟨y,u,rfl,e⟩
    · exact nomatch e
    · injection e with e1 _
      subst e1
      cases v <;> rfl
theorem kM (prog:Program) (w:World) (i:Int) (t:Tok):(bL prog w).is (.inl i) (.int i t) = true:=oV i t
theorem lc (prog:Program) (w:World) (x:Str) (t:Tok):(bL prog w).is (.inr x) (.str x t) = true:=ph x t
inductive V where
  | non | bl (b:Bool) | int (i:Int) | str (x:Str) | byt (b:Array UInt8) | flt (b:UInt64) | ref (a:Addr) | ty (n:String)
  deriving DecidableEq
def a7:V → Value → Prop
  | .non,u=>u = Value.none
  | .bl b,u=>u = Value.bool b
  | .int i,u=>∃ t,u = Value.int i t
  | .str x,u=>∃ t,u = Value.str x t
  | .byt b,u=>∃ t,u = Value.bytes b t
  | .flt b,u=>∃ t,u = Value.float b t
  | .ref a,u=>u = Value.ref a
  | .ty n,u=>u = Value.type n
abbrev aZ:List V → List Value → Prop:=Paired a7
theorem aZ.length {xs:List V} {us:List Value} (r:aZ xs us):xs.length = us.length:=Paired.length r
theorem aZ.get:∀ {xs:List V} {us:List Value} {i:Nat} {x:V},aZ xs us → xs[i]? = some x → ∃ u,us[i]? = some u ∧ a7 x u
  | _,_,_,_,.nil,e=>by simp at e
  | _,_,0,_,.cons r _,e=>by simp at e; subst e; exact ⟨_,rfl,r⟩
  | _,_,i + 1,x,.cons _ t,e=>by
    obtain ⟨u,h1,h2⟩:=aZ.get (i:=i) (x:=x) t (by simpa using e)
    exact ⟨u,by simpa using h1,h2⟩
theorem aZ.set {x:V} {u:Value} (r:a7 x u):∀ {xs:List V} {us:List Value} (i:Nat),aZ xs us → aZ (xs.set i x) (us.set i u)
  | _,_,_,.nil=>.nil
  | _,_,0,.cons _ t=>.cons r t
  | _,_,i + 1,.cons q t=>.cons q (aZ.set r i t)
theorem aZ.append:∀ {xs ys:List V} {us ws:List Value},aZ xs us → aZ ys ws → aZ (xs ++ ys) (us ++ ws)
  | _,_,_,_,.nil,s=>s
  | _,_,_,_,.cons r t,s=>.cons r (aZ.append t s)
theorem aZ.take:∀ {xs:List V} {us:List Value} (n:Nat),aZ xs us → aZ (xs.take n) (us.take n)
  | _,_,0,_=>.nil
  | _,_,_ + 1,.nil=>.nil
  | _,_,n + 1,.cons r t=>.cons r (aZ.take n t)
theorem aZ.drop:∀ {xs:List V} {us:List Value} (n:Nat),aZ xs us → aZ (xs.drop n) (us.drop n)
  | _,_,0,r=>r
  | _,_,_ + 1,.nil=>.nil
  | _,_,n + 1,.cons _ t=>aZ.drop n t
def gR:Option V → Option Value → Prop
  | some v,some u=>a7 v u
  | none,none=>True
  | _,_=>False
def KV {κ:Type}:List (κ × V) → List (κ × Value) → Prop:=Paired fun (p : κ × V) (q : κ × Value)=>p.1 = q.1 ∧ a7 p.2 q.2
def kV:Key → V
  | .inl i=>.int i
  | .inr x=>.str x
inductive HO where
  
  | lst (xs:List V)
  
  | tup (xs:List V)
  
  | dK (kvs:List (Key × V)) | dT (kvs:List (List Key × V))
  
  | set (S:Int → Bool) (n:Nat)
  
  | ins (C dx:Addr) (fs:List (Str × V))
  
  | own (x:Addr)
  
  | xd (fs:List (Str × V))
  
  | met (f x:Addr)
  
  | rng (lo hi:Int)
  
  | frz (o:Obj) (u:HO)
  
  | tbl (ps:Array Value)
  
  | ext (φ:Heap → Prop)
abbrev Hp:=Addr → Option HO
def upd (H:Hp) (a:Addr) (o:HO):Hp:=fun b=>if b = a then some o else H b
theorem aH {H:Hp} {a:Addr} {o:HO}:upd H a o a = some o:=by unfold upd; rw [if_pos rfl]
theorem am {H:Hp} {a b:Addr} {o:HO} (h:b ≠ a):upd H a o b = H b:=by unfold upd; rw [if_neg h]
theorem ne_of {H:Hp} {a b:Addr} {o u:HO} (h:H a = some o) (h':H b = some u) (d:o ≠ u):a ≠ b:=by
  intro e; subst e; rw [h] at h'; exact d (Option.some.inj h')
theorem au {H:Hp} {a b:Addr} {o:HO} (h:H a = some o) (h':H b = none):a ≠ b:=by
  intro e; subst e; rw [h] at h'; cases h'
section
variable (P:Program) (w:World)
def bd (H:Hp) (h:Heap) (a:Addr):HO → Prop
  | .lst xs=>xs.length ≤ sizeLine ∧ ∃ (its:List Value) (n:Nat),aZ xs its ∧ h.get? a = some { cls:=.type "list",data:=.seq its.toArray n }
  | .tup xs=>xs.length ≤ sizeLine ∧ ∃ its:List Value,aZ xs its ∧ IsTup h a its.toArray
  | .dK kvs=>kvs.length ≤ sizeLine ∧ (a == sysModules) = false ∧ ∃ vs,KV kvs vs ∧ h.DictOf (bL P w) a vs
  | .dT kvs=>kvs.length ≤ sizeLine ∧ (a == sysModules) = false ∧ ∃ xs:List (List Key × Addr × Value),
      Paired (fun (p:List Key × V) (q:List Key × Addr × Value)=>p.1 = q.1 ∧ H q.2.1 = some (.tup (p.1.map kV)) ∧ a7 p.2 q.2.2) kvs xs ∧
      ∃ o es ep,h.get? a = some o ∧ o.ExactDict ∧ o.data = .dict es ep ∧ es.toList = xs.map (entryOfKey (tupleKind (bL P w))) ∧ (xs.map (·.1)).Nodup
  | .set S n=>h.SetOf (intKind P w) a S n
  | .ins C dx fs=>H dx = some (.own a) ∧ fs.length ≤ 1000 ∧ dx ≠ a ∧ h.get? a = some (PySem.W.instObj C dx) ∧
      ∃ mA,h.Ns1 dx mA ∧ (∀ f,gR (fs.lookup f) (mA f)) ∧ PySem.Within mA (fs.map (·.1))
  | .own _=>∃ o,h.get? a = some o
  | .xd fs=>∃ mA,h.Ns1 a mA ∧ ∀ f,gR (fs.lookup f) (mA f)
  | .rng lo hi=>∃ t u v,h.get? a = some { cls:=.type "range",data:=.fields #[.int lo t,.int hi u,.int 1 v] }
  | .frz o u=>h.get? a = some o ∧ bd H h a u
  | .tbl ps=>h.get? a = some { cls:=.none,data:=.fields ps }
  | .met f x=>h.get? a = some (PySem.W.methodObj (.ref f) (.ref x))
  | .ext φ=>φ h ∧ (∃ o,h.get? a = some o) ∧ ∀ h1 h2:Heap,φ h1 → (∀ o,h1.get? a = some o → h2.get? a = some o) → φ h2
def HOk (H:Hp) (h:Heap):Prop:=∀ a o,H a = some o → bd P w H h a o
end
section
variable {P:Program} {w:World} {H H':Hp} {h h':Heap} {a:Addr} {o:HO}
theorem bd.lt (x:bd P w H h a o):a < h.objs.size:=by
  cases o with
  | lst xs=>obtain ⟨_,_,_,_,e⟩:=x; exact Heap.lt_size e
  | tup xs=>obtain ⟨_,_,_,p⟩:=x; exact p.lt
  | dK kvs=>obtain ⟨_,_,_,_,o,_,_,e,_⟩:=x; exact Heap.lt_size e
  | dT kvs=>obtain ⟨_,_,_,_,o,_,_,e,_⟩:=x; exact Heap.lt_size e
  | set S n=>obtain ⟨o,_,_,_,e,_⟩:=x; exact Heap.lt_size e
  | ins C dx fs=>obtain ⟨_,_,_,e,_⟩:=x; exact Heap.lt_size e
  | own y=>obtain ⟨_,e⟩:=x; exact Heap.lt_size e
  | xd fs=>obtain ⟨_,⟨_,_,_,e,_⟩,_⟩:=x; exact Heap.lt_size e
  | rng lo hi=>obtain ⟨_,_,_,e⟩:=x; exact Heap.lt_size e
  | frz ob u=>obtain ⟨e,_⟩:=x; exact Heap.lt_size e
  | tbl ps=>exact Heap.lt_size (show h.get? a = some _ from x)
  | met f y=>exact Heap.lt_size (show h.get? a = some _ from x)
  | ext φ=>obtain ⟨_,⟨_,e⟩,_⟩:=x; exact Heap.lt_size e
theorem Paired.mapP {α β:Type} {F G : α → β → Prop}:∀ {l₁:List α} {l₂:List β},Paired F l₁ l₂ → (∀ a b,F a b → G a b) → Paired G l₁ l₂
  | _,_,.nil,_=>.nil
  | _,_,.cons r t,f=>.cons (f _ _ r) (Paired.mapP t f)
theorem bd.stay (x:bd P w H h a o) (k:∀ b u,(b = a ∨ H b = some (.own a)) → h.get? b = some u → h'.get? b = some u)
    (ho:∀ b,H b = some (.own a) → H' b = some (.own a)) (ht:∀ b xs,H b = some (.tup xs) → H' b = some (.tup xs)):bd P w H' h' a o:=by
  induction o with
  | lst xs=>obtain ⟨z,its,n,r,e⟩:=x; exact ⟨z,its,n,r,k _ _ (.inl rfl) e⟩
  | tup xs=>obtain ⟨z,its,r,ob,e,c⟩:=x; exact ⟨z,its,r,ob,k _ _ (.inl rfl) e,c⟩
  | dK kvs=>obtain ⟨z,y,vs,r,ob,es,ep,e,c⟩:=x; exact ⟨z,y,vs,r,ob,es,ep,k _ _ (.inl rfl) e,c⟩
  | dT kvs =>
    obtain ⟨z,y,xs,r,ob,es,ep,e,c⟩:=x
    exact ⟨z,y,xs,Paired.mapP r fun p q z=>⟨z.1,ht _ _ z.2.1,z.2.2⟩,ob,es,ep,k _ _ (.inl rfl) e,c⟩
  | set S n=>obtain ⟨ob,es,ep,t,e,c⟩:=x; exact ⟨ob,es,ep,t,k _ _ (.inl rfl) e,c⟩
  | ins C dx fs =>
    obtain ⟨d,z,ne,e,mA,⟨od,es,ep,e2,c⟩,r⟩:=x
    exact ⟨ho _ d,z,ne,k _ _ (.inl rfl) e,mA,⟨od,es,ep,k _ _ (.inr d) e2,c⟩,r⟩
  | own y=>obtain ⟨ob,e⟩:=x; exact ⟨ob,k _ _ (.inl rfl) e⟩
  | xd fs=>obtain ⟨mA,⟨od,es,ep,e,c⟩,r⟩:=x; exact ⟨mA,⟨od,es,ep,k _ _ (.inl rfl) e,c⟩,r⟩
  | rng lo hi=>obtain ⟨t,u,v,e⟩:=x; exact ⟨t,u,v,k _ _ (.inl rfl) e⟩
  | frz ob u ih=>obtain ⟨e,q⟩:=x; exact ⟨k _ _ (.inl rfl) e,ih q⟩
  | tbl ps =>
    have e:h.get? a = some { cls:=.none,data:=.fields ps }:=x
    show h'.get? a = some { cls:=.none,data:=.fields ps }
    exact k a _ (.inl rfl) e
  | met f y =>
    have e:h.get? a = some (PySem.W.methodObj (.ref f) (.ref y)):=x
    show h'.get? a = some (PySem.W.methodObj (.ref f) (.ref y))
    exact k a _ (.inl rfl) e
  | ext φ=>obtain ⟨p,⟨o,e⟩,st⟩:=x; exact ⟨st _ _ p fun o q=>k _ _ (.inl rfl) q,⟨o,k _ _ (.inl rfl) e⟩,st⟩
theorem HOk.lt (x:HOk P w H h) (e:H a = some o):a < h.objs.size:=(x a o e).lt
theorem HOk.fresh (x:HOk P w H h) (e:h.objs.size ≤ a):H a = none:=by
  cases q:H a with
  | none=>rfl
  | some u=>exact absurd (Nat.lt_of_lt_of_le (x.lt q) e) (Nat.lt_irrefl _)
theorem HOk.kept (x:HOk P w H h) (k:∀ b u,h.get? b = some u → h'.get? b = some u):HOk P w H h':=fun a o e =>
  (x a o e).stay (fun b u _ q=>k b u q) (fun _ q=>q) fun _ _ q=>q
theorem HOk.laid (x:HOk P w H h) (k:∀ b u,h.get? b = some u → h'.get? b = some u) (hp:h.objs.size ≤ a) (new:bd P w (upd H a o) h' a o):HOk P w (upd H a o) h':=fun b u e=>by
  have hn:=x.fresh hp
  by_cases hb:b = a
  · subst hb; rw [aH] at e; cases e; exact new
  · rw [am hb] at e
    exact (x b u e).stay (fun c v _ q=>k c v q) (fun c q=>by rw [am (au q hn)]; exact q) fun c xs q=>by rw [am (au q hn)]; exact q
end
def Rd (H:Hp) (a:Addr) (u:HO):Prop:=H a = some u ∨ ∃ o,H a = some (.frz o u)
theorem Rd.ok {P:Program} {w:World} {H:Hp} {h:Heap} {a:Addr} {u:HO} (r:Rd H a u) (x:HOk P w H h):bd P w H h a u:=by
  rcases r with r | ⟨o,r⟩
  · exact x a u r
  · obtain ⟨_,q⟩:=x a _ r
    exact q
def Mut:Option HO → Prop
  | some (.lst _)=>True
  | some (.dK _)=>True
  | some (.dT _)=>True
  | some (.set _ _)=>True
  | some (.ins _ _ _)=>True
  | some (.ext _)=>True
  | _=>False
section
variable {P:Program} {w:World} {H:Hp} {h h':Heap} {x e:Addr} {o':HO}
theorem HOk.write (ok:HOk P w H h) (mu:Mut (H x)) (he:e = x ∨ H e = some (.own x)) (k:∀ b u,b ≠ e → h.get? b = some u → h'.get? b = some u) (heo:∃ u,h'.get? e = some u)
    (new:bd P w (upd H x o') h' x o'):HOk P w (upd H x o') h':=fun b u q=>by
  have nown:∀ c y,H c = some (.own y) → c ≠ x:=fun c y r z=>by subst z; rw [r] at mu; exact mu
  have ntup:∀ c xs,H c = some (.tup xs) → c ≠ x:=fun c xs r z=>by subst z; rw [r] at mu; exact mu
  by_cases hb:b = x
  · subst hb; rw [aH] at q; cases q; exact new
  · rw [am hb] at q
    by_cases hbe:b = e
    · have q':H b = some (.own x):=by
        rcases he with z | z
        · exact absurd (hbe.trans z) hb
        · rw [hbe]; exact z
      rw [q] at q'; cases q'
      obtain ⟨v,hv⟩:=heo
      exact ⟨v,by rw [hbe]; exact hv⟩
    · refine (ok b u q).stay (fun c v hc r=>k c v ?_ r) (fun c r=>by rw [am (nown c b r)]; exact r) fun c xs r=>by rw [am (ntup c xs r)]; exact r
      rcases hc with rfl | hc
      · exact hbe
      · rintro rfl
        rcases he with z | z
        · exact nown c b hc z
        · rw [hc] at z; cases z; exact hb rfl
end
structure Un (fs ex:List Addr) (H H':Hp) (h h':Heap):Prop where
  keep:∀ b o,h.get? b = some o → H b = none → b ∉ fs → b ∉ ex → h'.get? b = some o
  slot:∀ b o,h.get? b = some o → H b = none → b ∈ fs → b ∉ ex → ∃ sl,h'.get? b = some { o with slots:=sl }
  free:∀ b o,h.get? b = some o → H b = none → b ∉ ex → H' b = none
  there:∀ b o,h.get? b = some o → b ∉ ex → ∃ o',h'.get? b = some o'
  tups:∀ b xs,H b = some (.tup xs) → H' b = some (.tup xs)
  frzs:∀ b o u,H b = some (.frz o u) → H' b = some (.frz o u)
  tbls:∀ b ps,H b = some (.tbl ps) → ∃ more,H' b = some (.tbl (ps ++ more))
section
variable {fs fs' ex ex':List Addr} {H H1 H2:Hp} {h h1 h2 h':Heap} {a x e:Addr} {o:HO}
theorem Un.any (u:Un fs ex H H1 h h1) {b:Addr} {ob:Obj} (q:h.get? b = some ob) (n:H b = none) (hx:b ∉ ex):∃ sl,h1.get? b = some { ob with slots:=sl }:=by
  by_cases hb:b ∈ fs
  · exact u.slot b ob q n hb hx
  · exact ⟨ob.slots,u.keep b ob q n hb hx⟩
theorem Un.kept (k:∀ b u,h.get? b = some u → h'.get? b = some u):Un fs ex H H h h' :=
  ⟨fun b ob q _ _ _=>k b ob q,fun b ob q _ _ _=>⟨ob.slots,k b ob q⟩,fun _ _ _ n _=>n,fun b ob q _=>⟨ob,k b ob q⟩,fun _ _ q=>q,fun _ _ _ q=>q,fun _ ps q=>⟨#[],by rw [q]; simp⟩⟩
theorem Un.refl:Un fs ex H H h h:=Un.kept fun _ _ q=>q
theorem Un.laid (k:∀ b u,h.get? b = some u → h'.get? b = some u) (hp:h.objs.size ≤ a) (hn:H a = none):Un fs ex H (upd H a o) h h' where
  keep:=fun b u q _ _ _=>k b u q
  slot:=fun b u q _ _ _=>⟨u.slots,k b u q⟩
  free:=fun b u q n _=>by rw [am (Nat.ne_of_lt (Nat.lt_of_lt_of_le (Heap.lt_size q) hp))]; exact n
  there:=fun b u q _=>⟨u,k b u q⟩
  tups:=fun b xs q=>by rw [am (au q hn)]; exact q
  frzs:=fun b u xs q=>by rw [am (au q hn)]; exact q
  tbls:=fun b ps q=>⟨#[],by rw [am (au q hn),q]; simp⟩
theorem Un.write (mu:Mut (H x)) (he:e = x ∨ H e = some (.own x)) (k:∀ b u,b ≠ e → h.get? b = some u → h'.get? b = some u) (heo:∃ u,h'.get? e = some u):Un fs ex H (upd H x o) h h':=by
  have hx:∀ b,H b = none → b ≠ x:=fun b n z=>by subst z; rw [n] at mu; exact mu
  have hb:∀ b,H b = none → b ≠ e:=fun b n z=>by
    subst z
    rcases he with r | r
    · exact hx b n r
    · rw [n] at r; cases r
  have hm:∀ b u,H b = some u → ¬ Mut (some u) → b ≠ x:=fun b u q nm z=>by subst z; rw [q] at mu; exact nm mu
  refine ⟨fun b u q n _ _=>k b u (hb b n) q,fun b u q n _ _=>⟨u.slots,k b u (hb b n) q⟩,fun b u q n _=>by rw [am (hx b n)]; exact n,fun b u q _=>?_,
    fun b xs q=>by rw [am (hm b _ q fun z=>z)]; exact q,fun b u xs q=>by rw [am (hm b _ q fun z=>z)]; exact q,fun b ps q=>⟨#[],by rw [am (hm b _ q fun z=>z),q]; simp⟩⟩
  by_cases hbe:b = e
  · subst hbe; exact heo
  · exact ⟨u,k b u hbe q⟩
end
def trk (h:Heap) (H:Hp):List Addr:=(List.range h.objs.size).filter fun a=>(H a).isSome
def kK (h:Heap) (H:Hp):Heap:=PySem.W.hideAll h (trk h H)
theorem o5 (h:Heap) (H:Hp):(kK h H).objs.size = h.objs.size:=PySem.W.hideAll_size _ _
theorem rA {h:Heap} {H:Hp} {b:Addr} {o:Obj} (e:h.get? b = some o) (n:H b = none):(kK h H).get? b = some o :=
  PySem.W.hideAll_get _ e fun hm=>by
    have q:(H b).isSome = true:=(List.mem_filter.mp hm).2
    rw [n] at q; simp at q
theorem tG {h:Heap} {H:Hp} {b:Addr} {o:Obj} (e:(kK h H).get? b = some o):h.get? b = some o ∧ H b = none:=by
  have e':h.get? b = some o:=PySem.W.of_hideAll (trk h H) e
  refine ⟨e',?_⟩
  cases q:H b with
  | none=>rfl
  | some x =>
    have hm:b ∈ trk h H:=List.mem_filter.mpr ⟨List.mem_range.mpr (Heap.lt_size e'),by simp [q]⟩
    have z:(kK h H).get? b = none:=PySem.W.hideAll_none (trk h H) hm
    rw [z] at e; cases e
structure Mod (K:PySem.W.Frag) (mg:Str → Option Value) (base:Heap):Prop where
  kin:K.In base
  glob:base.Ns mainGlobals mg
  blt:∃ mb,base.Ns builtinsNs mb ∧ ∀ x:Str,x ≠ "__name__" → mb x = bootBuiltins x
  nolimit:base.NoLimit
structure Cx where
  prog:Program
  w:World
  K:PySem.W.Frag
  mg:Str → Option Value
  base:Heap
  A:Around
  N:List Str
  s₀:Shared
  H₀:Hp
  env:Env
  outer:List Env
  stack:List Env
  ex:List Addr
  fn:Str → Bool
  calm:Bool
  pn:List (Addr × Obj)
  xe:Value → Shared → Prop
def frs (l:List Env):List Addr:=l.filterMap (·.frame)
abbrev Cx.fs (X:Cx):List Addr:=frs X.outer
def Vis (sc:Scope) (x:Str):Prop:=sc.names.lookup x = some .local ∨ sc.names.lookup x = some .cell ∨ sc.names.lookup x = some .free
def Loc (sc:Scope) (x:Str):Prop:=sc.names.lookup x = some .local ∨ sc.names.lookup x = some .cell
def Look (env:Env) (h:Heap) (m:Str → Option Value) (x:Str) (u:Value):Prop :=
  (env.kindOf x = some .local ∧ m x = some u) ∨ ((env.kindOf x = some .cell ∨ env.kindOf x = some .free) ∧ ∃ c,env.cells.lookup x = some c ∧ h.IsCell c (some u))
structure Cx.Ok (X:Cx):Prop where
  mod:Mod X.K X.mg X.base
  kind:X.env.scope.kind = .function
  glob:X.env.globals = mainGlobals
  blt:X.env.builtins = builtinsNs
  above:X.s₀.heap.objs.size ≤ X.env.locals
  inj:∀ x y c,X.env.cells.lookup x = some c → X.env.cells.lookup y = some c → x = y
  has:∀ x,(X.env.kindOf x = some .cell ∨ X.env.kindOf x = some .free) → ∃ c,X.env.cells.lookup x = some c
  cab:∀ x c,X.fn x = true → X.env.cells.lookup x = some c → X.s₀.heap.objs.size ≤ c
  hd:X.calm = true → X.A.handled = none
  frames:X.A.frames = some X.stack
  stk:X.stack = X.outer ∨ (X.stack = X.env :: X.outer ∧ X.env.frame = some X.env.locals)
  exf:∀ b ∈ X.ex,b ≠ X.env.locals ∧ ∀ x c,X.env.cells.lookup x = some c → c ≠ b
  bs:∀ b o,X.base.get? b = some o → X.s₀.heap.get? b = some o ∧ X.H₀ b = none
  bsz:X.base.objs.size ≤ X.s₀.heap.objs.size
  noex:∀ b o,X.base.get? b = some o → b ∉ X.ex
  exfs:∀ b ∈ X.ex,b ∉ X.fs
  funs:X.s₀.heap.FunFrames X.base X.outer
  frf:∀ b ∈ X.fs,X.H₀ b = none
structure Inv (X:Cx) (pins:List (Addr × Obj)) (σ:List (Option V)) (H:Hp) (s:Shared):Prop where
  ok:X.Ok
  os:s.os = X.s₀.os
  bare:AllBare s.gens
  base:Un X.fs X.ex X.H₀ H X.s₀.heap s.heap
  loc:∃ m,s.heap.Ns X.env.locals m ∧ ∀ (i:Nat) (x:Str) (v:V),X.N[i]? = some x → σ[i]? = some (some v) → Vis X.env.scope x → ∃ u,a7 v u ∧ Look X.env s.heap m x u
  cell:∀ x c,X.env.cells.lookup x = some c → ∃ v,s.heap.IsCell c v
  free:H X.env.locals = none
  freeC:∀ x c,X.env.cells.lookup x = some c → H c = none
  pin:∀ p ∈ X.pn ++ pins,s.heap.get? p.1 = some p.2 ∧ H p.1 = none ∧ p.1 ≠ X.env.locals ∧ p.1 ∉ X.fs ∧ ∀ v,p.2.data ≠ .cell v
  hok:HOk X.prog X.w H s.heap
  len : σ.length = X.N.length
section
variable {X:Cx} {pins:List (Addr × Obj)} {σ:List (Option V)} {H H':Hp} {s:Shared} {h':Heap}
theorem Cx.Ok.nofr (ok:X.Ok) {b:Addr} {o:Obj} (e:X.base.get? b = some o):b ∉ X.fs:=fun hb=>by
  have:=(ok.funs.mem hb).1
  rw [e] at this; cases this
theorem Inv.bs (I:Inv X pins σ H s):∀ b o,X.base.get? b = some o → s.heap.get? b = some o ∧ H b = none:=fun b o e =>
  ⟨I.base.keep b o (I.ok.bs b o e).1 (I.ok.bs b o e).2 (I.ok.nofr e) (I.ok.noex b o e),I.base.free b o (I.ok.bs b o e).1 (I.ok.bs b o e).2 (I.ok.noex b o e)⟩
theorem Inv.bk (I:Inv X pins σ H s):∀ b o,X.base.get? b = some o → s.heap.get? b = some o:=fun b o e=>(I.bs b o e).1
theorem Inv.mod (I:Inv X pins σ H s):Mod X.K X.mg X.base:=I.ok.mod
theorem Inv.kIn (I:Inv X pins σ H s):X.K.In s.heap:=I.ok.mod.kin.keeps I.bk
theorem Inv.fr (I:Inv X pins σ H s):∃ m,Fr X.base X.env.locals s.heap m :=
  let ⟨m,hn,_⟩:=I.loc
  ⟨m,hn,I.bk,Nat.le_trans I.ok.bsz I.ok.above⟩
theorem Inv.lt (I:Inv X pins σ H s):X.env.locals < s.heap.objs.size:=let ⟨_,hn,_⟩:=I.loc; hn.lt
theorem Inv.sz (I:Inv X pins σ H s):X.s₀.heap.objs.size ≤ s.heap.objs.size:=Nat.le_trans I.ok.above (Nat.le_of_lt I.lt)
theorem Inv.nofs (I:Inv X pins σ H s) {a:Addr} (h:s.heap.objs.size ≤ a):a ∉ X.fs:=fun hb=>by
  obtain ⟨_,o,ho,_⟩:=I.ok.funs.mem hb
  exact absurd (Nat.lt_of_lt_of_le (Heap.lt_size ho) (Nat.le_trans I.sz h)) (Nat.lt_irrefl _)
theorem Inv.cne (I:Inv X pins σ H s):∀ x c,X.env.cells.lookup x = some c → c ≠ X.env.locals:=fun x c e z=>by
  obtain ⟨v,o,ho,hd⟩:=I.cell x c e
  obtain ⟨m,⟨o',es,ep,ho',hd',_⟩,_⟩:=I.loc
  rw [z,ho'] at ho; cases ho; rw [hd'] at hd; cases hd
theorem Inv.funs (I:Inv X pins σ H s):s.heap.FunFrames X.base X.outer:=by
  have all:∀ (l:List Env),(∀ b ∈ frs l,b ∈ X.fs) → X.s₀.heap.FunFrames X.base l → s.heap.FunFrames X.base l:=by
    intro l
    induction l with
    | nil=>intro _ _; trivial
    | cons env r ih =>
      intro hs hl
      obtain ⟨hk,⟨L,o,hf,hn,ho,hd⟩,hr⟩:=hl
      have hL:L ∈ X.fs:=hs L (by unfold frs; rw [List.filterMap_cons,hf]; exact List.mem_cons_self)
      obtain ⟨sl,e⟩:=I.base.slot L o ho (I.ok.frf L hL) hL fun z=>I.ok.exfs L z hL
      exact ⟨hk,⟨L,_,hf,hn,e,hd⟩,ih (fun b hb=>hs b (by unfold frs; rw [List.filterMap_cons,hf]; exact List.mem_cons_of_mem _ hb)) hr⟩
  exact all X.outer (fun _ hb=>hb) I.ok.funs
theorem Inv.stack (I:Inv X pins σ H s):s.heap.FunFrames X.base X.stack:=by
  rcases I.ok.stk with e | ⟨e,hf⟩
  · rw [e]; exact I.funs
  · rw [e]
    obtain ⟨m,hn,_⟩:=I.loc
    refine .cons (by rw [I.ok.kind]; decide) hf hn ?_ I.funs
    exact Heap.get?_none_of_le (Nat.le_trans I.ok.bsz I.ok.above)
theorem Inv.stkSub (I:Inv X pins σ H s):∀ b ∈ frs X.stack,b ∈ X.env.locals :: X.fs:=fun b hb=>by
  rcases I.ok.stk with e | ⟨e,hf⟩
  · rw [e] at hb; exact List.mem_cons_of_mem _ hb
  · rw [e] at hb
    unfold frs at hb
    rw [List.filterMap_cons,hf] at hb
    exact hb
theorem Inv.stkFree (I:Inv X pins σ H s):∀ b ∈ frs X.stack,H b = none:=fun b hb=>by
  rcases List.mem_cons.mp (I.stkSub b hb) with e | hb
  · rw [e]; exact I.free
  · obtain ⟨_,o,ho,_⟩:=I.ok.funs.mem hb
    exact I.base.free b o ho (I.ok.frf b hb) fun z=>I.ok.exfs b z hb
theorem Inv.step {g':Array GenState} {t':Nat} {d':Drawn} {ch:List Addr} (I:Inv X pins σ H s)
    (hch:∀ b ∈ ch,(b ∈ X.ex ∨ X.s₀.heap.objs.size ≤ b) ∧ b ≠ X.env.locals ∧ (∀ x c,X.env.cells.lookup x = some c → c ≠ b) ∧ ∀ p ∈ X.pn ++ pins,p.1 ≠ b)
    (keep:∀ b o,b ≠ X.env.locals → b ∉ X.fs → b ∉ ch → s.heap.get? b = some o → H b = none → h'.get? b = some o)
    (slot:∀ b o,b ≠ X.env.locals → b ∈ X.fs → b ∉ ch → s.heap.get? b = some o → H b = none → ∃ sl,h'.get? b = some { o with slots:=sl }) (free:∀ b o,b ∉ ch → s.heap.get? b = some o → H b = none → H' b = none)
    (there:∀ b o,b ∉ ch → s.heap.get? b = some o → ∃ o',h'.get? b = some o')
    (tups:∀ b xs,H b = some (.tup xs) → H' b = some (.tup xs)) (frzs:∀ b o u,H b = some (.frz o u) → H' b = some (.frz o u)) (tbls:∀ b ps,H b = some (.tbl ps) → ∃ more,H' b = some (.tbl (ps ++ more)))
    (ns:∀ m,s.heap.Ns X.env.locals m → h'.Ns X.env.locals m) (hok:HOk X.prog X.w H' h') (hg:AllBare g') :
    Inv X pins σ H' { s with heap:=h',gens:=g',drawn:=d',toks:=t' }:=by
  have neL:∀ b o,X.s₀.heap.get? b = some o → b ≠ X.env.locals:=fun b o e=>Nat.ne_of_lt (Nat.lt_of_lt_of_le (Heap.lt_size e) I.ok.above)
  have neC:∀ b o,X.s₀.heap.get? b = some o → b ∉ X.ex → b ∉ ch:=fun b o e hx hb=>by
    rcases (hch b hb).1 with z | z
    · exact hx z
    · exact absurd (Nat.lt_of_lt_of_le (Heap.lt_size e) z) (Nat.lt_irrefl _)
  have cellK:∀ x c,X.env.cells.lookup x = some c → ∀ v,s.heap.IsCell c v → h'.IsCell c v:=fun x c e v ⟨o,ho,hd⟩=>by
    have nch:c ∉ ch:=fun z=>(hch c z).2.2.1 x c e rfl
    by_cases hc:c ∈ X.fs
    · obtain ⟨sl,q⟩:=slot c o (I.cne x c e) hc nch ho (I.freeC x c e)
      exact ⟨_,q,hd⟩
    · exact ⟨o,keep c o (I.cne x c e) hc nch ho (I.freeC x c e),hd⟩
  refine ⟨I.ok,I.os,hg,⟨fun b o e n hb hx=>?_,fun b o e n hb hx=>?_,fun b o e n hx=>?_,fun b o e hx=>?_,fun b xs e=>tups b xs (I.base.tups b xs e),fun b o xs e=>frzs b o xs (I.base.frzs b o xs e),fun b ps e=>?_⟩,?_,fun x c e=>?_,?_,fun x c e=>?_,fun p hp=>?_,hok,I.len⟩
  · exact keep b o (neL b o e) hb (neC b o e hx) (I.base.keep b o e n hb hx) (I.base.free b o e n hx)
  · obtain ⟨sl,e1⟩:=I.base.slot b o e n hb hx
    obtain ⟨sl',e2⟩:=slot b _ (neL b o e) hb (neC b o e hx) e1 (I.base.free b o e n hx)
    exact ⟨sl',e2⟩
  · obtain ⟨o',e1⟩:=I.base.there b o e hx
    exact free b o' (neC b o e hx) e1 (I.base.free b o e n hx)
  · obtain ⟨o',e1⟩:=I.base.there b o e hx
    exact there b o' (neC b o e hx) e1
  · obtain ⟨m1,e1⟩:=I.base.tbls b ps e
    obtain ⟨m2,e2⟩:=tbls b _ e1
    exact ⟨m1 ++ m2,by rw [e2,Array.append_assoc]⟩
  · obtain ⟨m,hn,hl⟩:=I.loc
    refine ⟨m,ns m hn,fun i x v e1 e2 e3=>?_⟩
    obtain ⟨u,r,l⟩:=hl i x v e1 e2 e3
    refine ⟨u,r,?_⟩
    rcases l with l | ⟨k,c,e,z⟩
    · exact .inl l
    · exact .inr ⟨k,c,e,cellK x c e _ z⟩
  · obtain ⟨v,z⟩:=I.cell x c e
    exact ⟨v,cellK x c e v z⟩
  · obtain ⟨m,⟨o,_,_,ho,_⟩,_⟩:=I.loc
    exact free _ o (fun z=>(hch _ z).2.1 rfl) ho I.free
  · obtain ⟨v,o,ho,hd⟩:=I.cell x c e
    exact free c o (fun z=>(hch c z).2.2.1 x c e rfl) ho (I.freeC x c e)
  · obtain ⟨e,n,ne,nf,d⟩:=I.pin p hp
    have nch:p.1 ∉ ch:=fun z=>(hch p.1 z).2.2.2 p hp rfl
    exact ⟨keep p.1 p.2 ne nf nch e n,free p.1 p.2 nch e n,ne,nf,d⟩
theorem Inv.un {t':Nat} (I:Inv X pins σ H s) (u:Un X.fs [] H H' s.heap h') (hok:HOk X.prog X.w H' h'):Inv X pins σ H' { s with heap:=h',toks:=t' }:=by
  obtain ⟨m,⟨o,es,ep,ho,r⟩,_⟩:=id I.loc
  obtain ⟨sl,hL⟩:=u.any ho I.free (by simp)
  exact I.step (g':=s.gens) (d':=s.drawn) (ch:=[]) (fun _ z=>nomatch z) (fun b o _ hb _ e n=>u.keep b o e n hb (by simp)) (fun b o _ hb _ e n=>u.slot b o e n hb (by simp)) (fun b o _ e n=>u.free b o e n (by simp)) (fun b o _ e=>u.there b o e (by simp)) u.tups u.frzs u.tbls (fun m' hm=>by
    obtain ⟨o',es',ep',ho',r'⟩:=hm
    rw [ho] at ho'; cases ho'
    exact ⟨_,es',ep',hL,r'⟩) hok I.bare
theorem Inv.call {g':Array GenState} {t':Nat} {d':Drawn} {ch:List Addr} (I:Inv X pins σ H s) (u:Un (frs X.stack) ch H H' s.heap h') (hok:HOk X.prog X.w H' h') (hg:AllBare g')
    (hch:∀ b ∈ ch,(b ∈ X.ex ∨ X.s₀.heap.objs.size ≤ b) ∧ b ≠ X.env.locals ∧ (∀ x c,X.env.cells.lookup x = some c → c ≠ b) ∧ ∀ p ∈ X.pn ++ pins,p.1 ≠ b) :
    Inv X pins σ H' { s with heap:=h',gens:=g',drawn:=d',toks:=t' }:=by
  obtain ⟨m,⟨o,es,ep,ho,r⟩,_⟩:=id I.loc
  obtain ⟨sl,hL⟩:=u.any ho I.free fun z=>(hch _ z).2.1 rfl
  exact I.step (ch:=ch) hch (fun b o hL hb hc e n=>u.keep b o e n (fun z=>(List.mem_cons.mp (I.stkSub b z)).elim hL hb) hc) (fun b o _ _ hc e n=>u.any e n hc) (fun b o hc e n=>u.free b o e n hc) (fun b o hc e=>u.there b o e hc) u.tups u.frzs u.tbls (fun m' hm=>by
    obtain ⟨o',es',ep',ho',r'⟩:=hm
    rw [ho] at ho'; cases ho'
    exact ⟨_,es',ep',hL,r'⟩) hok hg
theorem Inv.turned {t':Nat} {it:Addr} (I:Inv X pins σ H s) (k:∀ b o,b ≠ it → s.heap.get? b = some o → h'.get? b = some o) (hn:H it = none) (hL:it ≠ X.env.locals)
    (h1:it ∈ X.ex ∨ X.s₀.heap.objs.size ≤ it) (h2:∀ x c,X.env.cells.lookup x = some c → c ≠ it) (h3:∀ p ∈ X.pn ++ pins,p.1 ≠ it):Inv X pins σ H { s with heap:=h',toks:=t' }:=by
  have nit:∀ b u,H b = some u → b ≠ it:=fun b u e z=>by rw [z,hn] at e; cases e
  refine I.step (g':=s.gens) (d':=s.drawn) (ch:=[it]) (fun b hb=>?_) (fun b o _ _ hc e _=>k b o (fun z=>hc (by simp [z])) e) (fun b o _ _ hc e _=>⟨o.slots,k b o (fun z=>hc (by simp [z])) e⟩) (fun _ _ _ _ n=>n)
    (fun b o hc e=>⟨o,k b o (fun z=>hc (by simp [z])) e⟩) (fun _ _ e=>e) (fun _ _ _ e=>e) (fun b ps e=>⟨#[],by rw [e]; simp⟩) (fun m hm=>?_) (fun b u e=>?_) I.bare
  · have e:b = it:=by simpa using hb
    subst e
    exact ⟨h1,hL,h2,h3⟩
  · obtain ⟨o,es,ep,ho,r⟩:=hm
    exact ⟨o,es,ep,k _ o (Ne.symm hL) ho,r⟩
  · refine (I.hok b u e).stay (fun c v hc q=>k c v ?_ q) (fun _ q=>q) fun _ _ q=>q
    rcases hc with z | z
    · rw [z]; exact nit b u e
    · exact nit c _ z
theorem Inv.tok (I:Inv X pins σ H s) (t:Nat):Inv X pins σ H { s with toks:=t }:=I.un (h':=s.heap) (t':=t) Un.refl I.hok
theorem Inv.kept {t':Nat} (I:Inv X pins σ H s) (k:∀ b u,s.heap.get? b = some u → h'.get? b = some u):Inv X pins σ H { s with heap:=h',toks:=t' }:=I.un (Un.kept k) (I.hok.kept k)
theorem Inv.laid {a:Addr} {o:HO} {t':Nat} (I:Inv X pins σ H s) (k:∀ b u,s.heap.get? b = some u → h'.get? b = some u) (hp:s.heap.objs.size ≤ a) (new:bd X.prog X.w (upd H a o) h' a o) :
    Inv X pins σ (upd H a o) { s with heap:=h',toks:=t' }:=I.un (Un.laid k hp (I.hok.fresh hp)) (I.hok.laid k hp new)
theorem Inv.write {x e:Addr} {o:HO} {t':Nat} (I:Inv X pins σ H s) (mu:Mut (H x)) (he:e = x ∨ H e = some (.own x)) (k:∀ b u,b ≠ e → s.heap.get? b = some u → h'.get? b = some u) (heo:∃ u,h'.get? e = some u)
    (new:bd X.prog X.w (upd H x o) h' x o):Inv X pins σ (upd H x o) { s with heap:=h',toks:=t' }:=I.un (Un.write mu he k heo) (I.hok.write mu he k heo new)
theorem Inv.weak {σ':List (Option V)} (I:Inv X pins σ H s) (hl : σ'.length = σ.length) (w:∀ (i:Nat) v,σ'[i]? = some (some v) → σ[i]? = some (some v)):Inv X pins σ' H s :=
  ⟨I.ok,I.os,I.bare,I.base,let ⟨m,hn,hl'⟩:=I.loc; ⟨m,hn,fun i x v e1 e2 e3=>hl' i x v e1 (w i v e2) e3⟩,I.cell,I.free,I.freeC,I.pin,I.hok,hl.trans I.len⟩
theorem Inv.pins_of {pins':List (Addr × Obj)} (I:Inv X pins σ H s) (h:∀ p ∈ pins',s.heap.get? p.1 = some p.2 ∧ H p.1 = none ∧ p.1 ≠ X.env.locals ∧ p.1 ∉ X.fs ∧ ∀ v,p.2.data ≠ .cell v):Inv X pins' σ H s :=
  ⟨I.ok,I.os,I.bare,I.base,I.loc,I.cell,I.free,I.freeC,fun p hp=>(List.mem_append.mp hp).elim (fun z=>I.pin p (List.mem_append_left _ z)) (h p),I.hok,I.len⟩
theorem lN {N:List Str} (hN:N.Nodup) {i j:Nat} {x:Str} (a:N[i]? = some x) (b:N[j]? = some x):i = j:=by
  obtain ⟨h1,e1⟩:=List.getElem?_eq_some_iff.mp a
  obtain ⟨h2,e2⟩:=List.getElem?_eq_some_iff.mp b
  exact (List.getElem_inj hN).mp (e1.trans e2.symm)
theorem ji {M:Model} {A:Around} {E:Value → Shared → Prop} {i:Nat} {x:Str} {v:V} {u:Value} {Q:Unit → Shared → Prop} (I:Inv X pins σ H s) (hN:X.N.Nodup) (hi:X.N[i]? = some x) (hx:Loc X.env.scope x) (r:a7 v u)
    (h:∀ s',Inv X pins (σ.set i (some v)) H s' → (∃ a,Heap.SameBut a s.heap s'.heap ∧ (a = X.env.locals ∨ X.env.cells.lookup x = some a)) → Q () s') (hf:X.fn x = true ∨ X.env.scope.names.lookup x = some .local:=by first | exact .inl rfl | exact .inr rfl | assumption):wpAny M A (storeName X.env x u) Q E s:=by
  obtain ⟨m,hn,hl⟩:=id I.loc
  have hcls:(X.env.scope.kind == .class || (X.env.scope.kind == .module && X.env.locals != X.env.globals)) = false:=by rw [I.ok.kind]; rfl
  have hiσ:i < σ.length:=by rw [I.len]; exact (List.getElem?_eq_some_iff.mp hi).1
  have cne:=I.cne
  have tracked:∀ {a:Addr} {h':Heap},(∃ o,s.heap.get? a = some o ∧ H a = none) → Heap.SameBut a s.heap h' → HOk X.prog X.w H h':=fun {a h'} ha hs b ob e=>by
    obtain ⟨_,_,hfree⟩:=ha
    refine (I.hok b ob e).stay (fun c w' hc q=>(hs.2 c ?_).trans q) (fun _ q=>q) fun _ _ q=>q
    rintro rfl
    rcases hc with rfl | hc
    · rw [hfree] at e; cases e
    · rw [hfree] at hc; cases hc
  rcases hx with hk | hk
  · refine wpAny_storeName_local hk hn (fun h' hn' hs=>?_) hcls
    obtain ⟨oL,_,_,hoL,_⟩:=id hn
    refine h _ ⟨I.ok,I.os,I.bare,⟨fun b o e n hb hx=>?_,fun b o e n hb hx=>?_,I.base.free,fun b o e hx=>?_,I.base.tups,I.base.frzs,I.base.tbls⟩,⟨_,hn',fun j y v' e1 e2 e3=>?_⟩,fun y c e=>?_,I.free,I.freeC,fun p hp=>?_,tracked ⟨oL,hoL,I.free⟩ hs,by simpa using I.len⟩ ⟨_,hs,.inl rfl⟩
    · exact (hs.2 b (Nat.ne_of_lt (Nat.lt_of_lt_of_le (Heap.lt_size e) I.ok.above))).trans (I.base.keep b o e n hb hx)
    · obtain ⟨sl,e1⟩:=I.base.slot b o e n hb hx
      exact ⟨sl,(hs.2 b (Nat.ne_of_lt (Nat.lt_of_lt_of_le (Heap.lt_size e) I.ok.above))).trans e1⟩
    · obtain ⟨o',e1⟩:=I.base.there b o e hx
      exact ⟨o',(hs.2 b (Nat.ne_of_lt (Nat.lt_of_lt_of_le (Heap.lt_size e) I.ok.above))).trans e1⟩
    · by_cases hj:j = i
      · subst hj
        rw [hi] at e1; cases e1
        rw [List.getElem?_set_self hiσ] at e2
        cases e2
        exact ⟨u,r,.inl ⟨hk,by simp⟩⟩
      · rw [List.getElem?_set_ne (Ne.symm hj)] at e2
        obtain ⟨u',r',q⟩:=hl j y v' e1 e2 e3
        refine ⟨u',r',?_⟩
        rcases q with ⟨k,e⟩ | ⟨k,c,e,z⟩
        · refine .inl ⟨k,?_⟩
          have:y ≠ x:=fun e=>hj (lN hN e1 (e ▸ hi))
          simp [this,e]
        · exact .inr ⟨k,c,e,z.sameBut hs (cne y c e)⟩
    · obtain ⟨w',z⟩:=I.cell y c e
      exact ⟨w',z.sameBut hs (cne y c e)⟩
    · obtain ⟨e,n,ne,nf,d⟩:=I.pin p hp
      exact ⟨(hs.2 p.1 ne).trans e,n,ne,nf,d⟩
  · have hfn:X.fn x = true:=by
      rcases hf with z | z
      · exact z
      · rw [z] at hk; cases hk
    obtain ⟨c,hc⟩:=I.ok.has x (.inl hk)
    obtain ⟨w',z⟩:=I.cell x c hc
    refine wpAny_storeName_cell I.ok.kind hk hc z (fun h' hc' hs=>?_)
    obtain ⟨oc,hoc,hocd⟩:=id z
    refine h { s with heap:=h' } ⟨I.ok,I.os,I.bare,⟨fun b o e n hb hx=>?_,fun b o e n hb hx=>?_,I.base.free,fun b o e hx=>?_,I.base.tups,I.base.frzs,I.base.tbls⟩,⟨m,hn.sameBut hs (Ne.symm (cne x c hc)),fun j y v' e1 e2 e3=>?_⟩,fun y c' e=>?_,I.free,I.freeC,fun p hp=>?_,tracked ⟨oc,hoc,I.freeC x c hc⟩ hs,by simpa using I.len⟩ ⟨c,hs,.inr hc⟩
    · exact (hs.2 b (Nat.ne_of_lt (Nat.lt_of_lt_of_le (Heap.lt_size e) (I.ok.cab x c hfn hc)))).trans (I.base.keep b o e n hb hx)
    · obtain ⟨sl,e1⟩:=I.base.slot b o e n hb hx
      exact ⟨sl,(hs.2 b (Nat.ne_of_lt (Nat.lt_of_lt_of_le (Heap.lt_size e) (I.ok.cab x c hfn hc)))).trans e1⟩
    · obtain ⟨o',e1⟩:=I.base.there b o e hx
      exact ⟨o',(hs.2 b (Nat.ne_of_lt (Nat.lt_of_lt_of_le (Heap.lt_size e) (I.ok.cab x c hfn hc)))).trans e1⟩
    · by_cases hj:j = i
      · subst hj
        rw [hi] at e1; cases e1
        rw [List.getElem?_set_self hiσ] at e2
        cases e2
        exact ⟨u,r,.inr ⟨.inl hk,c,hc,hc'⟩⟩
      · rw [List.getElem?_set_ne (Ne.symm hj)] at e2
        obtain ⟨u',r',q⟩:=hl j y v' e1 e2 e3
        refine ⟨u',r',?_⟩
        rcases q with q | ⟨k,c',e,z'⟩
        · exact .inl q
        · refine .inr ⟨k,c',e,z'.sameBut hs ?_⟩
          rintro rfl
          exact hj (lN hN e1 (I.ok.inj _ _ _ e hc ▸ hi))
    · by_cases hcc:c' = c
      · subst hcc; exact ⟨_,hc'⟩
      · obtain ⟨w2,z2⟩:=I.cell y c' e
        exact ⟨w2,z2.sameBut hs hcc⟩
    · obtain ⟨e,n,ne,nf,d⟩:=I.pin p hp
      refine ⟨(hs.2 p.1 ?_).trans e,n,ne,nf,d⟩
      intro q
      rw [q,hoc] at e
      have q':oc = p.2:=Option.some.inj e
      exact d w' (by rw [← q']; exact hocd)
theorem fm {M:Model} {A:Around} {E:Value → Shared → Prop} {i:Nat} {x:Str} {v:V} {u:Value} {Q:Unit → Shared → Prop} (I:Inv X pins σ H s) (hN:X.N.Nodup) (hi:X.N[i]? = some x) (hx:Loc X.env.scope x) (r:a7 v u)
    (h:∀ s',Inv X pins (σ.set i (some v)) H s' → Q () s') (hf:X.fn x = true ∨ X.env.scope.names.lookup x = some .local:=by first | exact .inl rfl | exact .inr rfl | assumption):wpAny M A (storeName X.env x u) Q E s :=
  ji I hN hi hx r (fun s' I' _=>h s' I') hf
theorem Inv.call' {s':Shared} {ch:List Addr} (I:Inv X pins σ H s) (ho:s'.os = s.os) (u:Un (frs X.stack) ch H H' s.heap s'.heap) (hok:HOk X.prog X.w H' s'.heap) (hg:AllBare s'.gens)
    (hch:∀ b ∈ ch,(b ∈ X.ex ∨ X.s₀.heap.objs.size ≤ b) ∧ b ≠ X.env.locals ∧ (∀ x c,X.env.cells.lookup x = some c → c ≠ b) ∧ ∀ p ∈ X.pn ++ pins,p.1 ≠ b):Inv X pins σ H' s':=by
  obtain ⟨h',g',d',t',o'⟩:=s'
  have e:o' = s.os:=ho
  subst e
  exact I.call (g':=g') (t':=t') (d':=d') u hok hg hch
end
abbrev XK:=Value → Option Addr → Hp → Prop
abbrev St:=List (Option V)
abbrev VK:=V → Hp → Prop
abbrev TE:=St → Hp → VK → Prop
abbrev TT:=St → Hp → (Bool → Hp → Prop) → Prop
abbrev TA:=St → Hp → (List V → Hp → Prop) → Prop
structure Ends where
  nx:St → Hp → Prop
  rt:VK
  bk:St → Hp → Prop:=fun _ _=>False
  ct:St → Hp → Prop:=fun _ _=>False
abbrev TS:=Ends → St → Hp → Prop
def EP (X:Cx) (pins:List (Addr × Obj)) (σ:St) (Q:VK) (u:Value) (s':Shared):Prop:=∃ v H',Inv X pins σ H' s' ∧ a7 v u ∧ Q v H'
def TP (X:Cx) (pins:List (Addr × Obj)) (σ:St) (Q:Bool → Hp → Prop) (b:Bool) (s':Shared):Prop:=∃ H',Inv X pins σ H' s' ∧ Q b H'
def AP (X:Cx) (pins:List (Addr × Obj)) (σ:St) (Q:List V → Hp → Prop) (us:List Value) (s':Shared):Prop:=∃ vs H',Inv X pins σ H' s' ∧ aZ vs us ∧ Q vs H'
def SP (X:Cx) (pins:List (Addr × Obj)) (D:Ends) (f:Flow) (s':Shared):Prop :=
  match f with
  | .next=>∃ σ' H',Inv X pins σ' H' s' ∧ D.nx σ' H'
  | .brk=>∃ σ' H',Inv X pins σ' H' s' ∧ D.bk σ' H'
  | .cont=>∃ σ' H',Inv X pins σ' H' s' ∧ D.ct σ' H'
  | .ret u=>∃ v σ' H',Inv X pins σ' H' s' ∧ a7 v u ∧ D.rt v H'
structure PE (X:Cx) (e:Expr) (t:TE):Prop where
  go:∀ (pins:List (Addr × Obj)) (s:Shared) (σ:St) (H:Hp) (Q:VK),Inv X pins σ H s → t σ H Q → wpAny (model X.prog X.w) X.A (eval e X.env) (EP X pins σ Q) X.xe s
instance {X:Cx} {e:Expr} {t:TE}:CoeFun (PE X e t) fun _=>∀ (pins:List (Addr × Obj)) (s:Shared) (σ:St) (H:Hp) (Q:VK),Inv X pins σ H s → t σ H Q → wpAny (model X.prog X.w) X.A (eval e X.env) (EP X pins σ Q) X.xe s:=⟨fun h=>h.go⟩
structure PT (X:Cx) (e:Expr) (t:TT):Prop where
  go:∀ (pins:List (Addr × Obj)) (s:Shared) (σ:St) (H:Hp) (Q:Bool → Hp → Prop),Inv X pins σ H s → t σ H Q → wpAny (model X.prog X.w) X.A (isTrue e X.env (eval e X.env)) (TP X pins σ Q) X.xe s
instance {X:Cx} {e:Expr} {t:TT}:CoeFun (PT X e t) fun _=>∀ (pins:List (Addr × Obj)) (s:Shared) (σ:St) (H:Hp) (Q:Bool → Hp → Prop),Inv X pins σ H s → t σ H Q → wpAny (model X.prog X.w) X.A (isTrue e X.env (eval e X.env)) (TP X pins σ Q) X.xe s:=⟨fun h=>h.go⟩
structure PW (X:Cx) (e:Expr) (t:TT):Prop where
  go:∀ (whole:Sem Value) (pins:List (Addr × Obj)) (s:Shared) (σ:St) (H:Hp) (Q:Bool → Hp → Prop),Inv X pins σ H s → t σ H Q → wpAny (model X.prog X.w) X.A (isTrue e X.env whole) (TP X pins σ Q) X.xe s
instance {X:Cx} {e:Expr} {t:TT}:CoeFun (PW X e t) fun _=>∀ (whole:Sem Value) (pins:List (Addr × Obj)) (s:Shared) (σ:St) (H:Hp) (Q:Bool → Hp → Prop),Inv X pins σ H s → t σ H Q → wpAny (model X.prog X.w) X.A (isTrue e X.env whole) (TP X pins σ Q) X.xe s:=⟨fun h=>h.go⟩
theorem PW.pt {X:Cx} {e:Expr} {t:TT} (h:PW X e t):PT X e t:=⟨h.go _⟩
structure PA (X:Cx) (es:List Expr) (t:TA):Prop where
  go:∀ (pos:Pos) (pins:List (Addr × Obj)) (s:Shared) (σ:St) (H:Hp) (Q:List V → Hp → Prop),Inv X pins σ H s → t σ H Q → wpAny (model X.prog X.w) X.A (spliced (backTo pos (starEach es X.env))) (AP X pins σ Q) X.xe s
instance {X:Cx} {es:List Expr} {t:TA}:CoeFun (PA X es t) fun _=>∀ (pos:Pos) (pins:List (Addr × Obj)) (s:Shared) (σ:St) (H:Hp) (Q:List V → Hp → Prop),Inv X pins σ H s → t σ H Q → wpAny (model X.prog X.w) X.A (spliced (backTo pos (starEach es X.env))) (AP X pins σ Q) X.xe s:=⟨fun h=>h.go⟩
structure PS (X:Cx) (st:Stmt) (t:TS):Prop where
  go:∀ (pins:List (Addr × Obj)) (s:Shared) (σ:St) (H:Hp) (D:Ends),Inv X pins σ H s → t D σ H → wpAny (model X.prog X.w) X.A (exec st X.env) (SP X pins D) X.xe s
instance {X:Cx} {st:Stmt} {t:TS}:CoeFun (PS X st t) fun _=>∀ (pins:List (Addr × Obj)) (s:Shared) (σ:St) (H:Hp) (D:Ends),Inv X pins σ H s → t D σ H → wpAny (model X.prog X.w) X.A (exec st X.env) (SP X pins D) X.xe s:=⟨fun h=>h.go⟩
structure PSs (X:Cx) (st:List Stmt) (t:TS):Prop where
  go:∀ (pins:List (Addr × Obj)) (s:Shared) (σ:St) (H:Hp) (D:Ends),Inv X pins σ H s → t D σ H → wpAny (model X.prog X.w) X.A (execs st X.env) (SP X pins D) X.xe s
instance {X:Cx} {st:List Stmt} {t:TS}:CoeFun (PSs X st t) fun _=>∀ (pins:List (Addr × Obj)) (s:Shared) (σ:St) (H:Hp) (D:Ends),Inv X pins σ H s → t D σ H → wpAny (model X.prog X.w) X.A (execs st X.env) (SP X pins D) X.xe s:=⟨fun h=>h.go⟩
theorem thn {α:Type} {t:Sem α} {Q Q' : α → Shared → Prop} {M:Model} {A:Around} {E:Value → Shared → Prop} {s:Shared} (h:wpAny M A t Q E s) (hQ:∀ a s,Q a s → Q' a s):wpAny M A t Q' E s:=wpAny_mono h hQ fun _ _ x=>x
section
variable {X:Cx}
theorem bin {a b:Expr} {ta tb:TE} (ha:PE X a ta) (hb:PE X b tb) {pins:List (Addr × Obj)} {s:Shared} {σ:St} {H:Hp} {R:V → V → Hp → Prop} (I:Inv X pins σ H s) (h:ta σ H fun x H1=>tb σ H1 fun y H2=>R x y H2)
    {α:Type} {Q : α → Shared → Prop} {f:Value → Value → Sem α}
    (hf:∀ v u s2 x y H2,Inv X pins σ H2 s2 → a7 x v → a7 y u → R x y H2 → wpAny (model X.prog X.w) X.A (f v u) Q X.xe s2) :
    wpAny (model X.prog X.w) X.A (eval a X.env) (fun v s₁=>wpAny (model X.prog X.w) X.A (eval b X.env) (fun u s₂=>wpAny (model X.prog X.w) X.A (f v u) Q X.xe s₂) X.xe s₁) X.xe s:=by
  refine thn (ha pins s σ H _ I h) fun v s1 ⟨x,H1,I1,r1,q1⟩=>?_
  refine thn (hb pins s1 σ H1 _ I1 q1) fun u s2 ⟨y,H2,I2,r2,q2⟩=>?_
  exact hf v u s2 x y H2 I2 r1 r2 q2
def tVar (i:Nat):TE:=fun σ H Q=>∃ v,σ[i]? = some (some v) ∧ Q v H
def tC (v:V):TE:=fun _ H Q=>Q v H
theorem d6 {i:Nat} {x:Str} {pos:Pos} (hN:X.N[i]? = some x) (hv:Vis X.env.scope x) (hd:(x == ("__debug__":Str)) = false:=by decide) (hcd:(x == ("__classdict__":Str)) = false:=by decide):PE X (.Name x pos) (tVar i):=by
  (try refine ⟨?_⟩); intro pins s σ H Q I h
  obtain ⟨v,e,h⟩:=h
  obtain ⟨m,hn,hl⟩:=I.loc
  obtain ⟨u,r,l⟩:=hl i x v hN e hv
  have fin:EP X pins σ Q u s:=⟨v,H,I,r,h⟩
  rcases l with ⟨hk,hm⟩ | ⟨hk,c,hc,hcell⟩
  · exact wpAny_Name (wpAny_loadName_local I.ok.kind hk hn hm fin) hd
  · rcases hk with hk | hk
    · exact wpAny_Name (wpAny_loadName_cell I.ok.kind hk hc hcell fin) hd
    · exact wpAny_Name (wpAny_loadName_free I.ok.kind hk hc hcell fin hcd) hd
theorem pO {i j pos}:PE X (.Constant (.int i) j pos) (tC (.int i)):=⟨fun _ _ _ H _ I h=>wpAny_Constant_int ⟨.int i,H,I.tok _,⟨_,rfl⟩,h⟩⟩
theorem uC {b j pos}:PE X (.Constant (.bool b) j pos) (tC (.bl b)):=⟨fun _ _ _ H _ I h=>Constant_bool ⟨.bl b,H,I,rfl,h⟩⟩
theorem xb {j pos}:PE X (.Constant .none j pos) (tC .non):=⟨fun _ _ _ H _ I h=>Constant_none ⟨.non,H,I,rfl,h⟩⟩
theorem wc {x j pos}:PE X (.Constant (.str x) j pos) (tC (.str x)):=⟨fun _ _ _ H _ I h=>Calls.Constant_str ⟨.str x,H,I.tok _,⟨_,rfl⟩,h⟩⟩
def Gl (X:Cx) (x:Str):Prop:=X.env.kindOf x = some .globalImplicit
theorem nW {E:Value → Shared → Prop} {pins:List (Addr × Obj)} {s:Shared} {σ:St} {H:Hp} {x:Str} {u:Value} {pos:Pos} {Q:Value → Shared → Prop} (I:Inv X pins σ H s) (hg:Gl X x) (hm:X.mg x = some u) (h:Q u s)
    (hd:(x == ("__debug__":Str)) = false:=by decide):wpAny (model X.prog X.w) X.A (eval (.Name x pos) X.env) Q E s :=
  Calls.Name_function_global I.ok.kind hg (Calls.loadGlobal_global (by rw [I.ok.glob]; exact I.mod.glob.keeps I.bk) hm h) hd
theorem eD {E:Value → Shared → Prop} {pins:List (Addr × Obj)} {s:Shared} {σ:St} {H:Hp} {x:Str} {u:Value} {pos:Pos} {Q:Value → Shared → Prop} (I:Inv X pins σ H s) (hg:Gl X x) (hm:X.mg x = none) (hv:bootBuiltins x = some u) (h:Q u s)
    (hn:x ≠ "__name__":=by decide) (hd:(x == ("__debug__":Str)) = false:=by decide):wpAny (model X.prog X.w) X.A (eval (.Name x pos) X.env) Q E s:=by
  obtain ⟨mb,h1,h2⟩:=I.mod.blt
  exact Calls.Name_function_global I.ok.kind hg (Calls.loadGlobal_builtin (by rw [I.ok.glob]; exact I.mod.glob.keeps I.bk) hm (by rw [I.ok.blt]; exact h1.keeps I.bk) ((h2 x hn).trans hv) h) hd
theorem sX {x:Str} {v:V} {u:Value} {pos:Pos} (hg:Gl X x) (hm:X.mg x = some u) (r:a7 v u) (hd:(x == ("__debug__":Str)) = false:=by decide):PE X (.Name x pos) (tC v):=⟨fun _ _ _ H _ I h=>nW I hg hm ⟨v,H,I,r,h⟩ hd⟩
theorem bW {x:Str} {v:V} {u:Value} {pos:Pos} (hg:Gl X x) (hm:X.mg x = none) (hv:bootBuiltins x = some u) (r:a7 v u) (hn:x ≠ "__name__":=by decide) (hd:(x == ("__debug__":Str)) = false:=by decide):PE X (.Name x pos) (tC v):=⟨fun _ _ _ H _ I h=>eD I hg hm hv ⟨v,H,I,r,h⟩ hn hd⟩
variable {a b:Expr} {ta tb:TE} {pos:Pos}
def tB (t:TE):TT:=fun σ H Q=>t σ H fun x H1=>∃ c,x = .bl c ∧ Q c H1
theorem wZ {e:Expr} {t:TE} (h:PE X e t) (he:∀ whole,isTrue e X.env whole = (do let v ← whole; standAt e.pos; holding [v] (truthy v)):=by intro _; rfl):PT X e (tB t):=by
  (try refine ⟨?_⟩); intro pins s σ H Q I hw
  refine isTrue_plain (thn (h pins s σ H _ I hw) fun v s1 ⟨x,H1,I1,r1,q1⟩=>?_) (he _)
  obtain ⟨d,rfl,q⟩:=q1
  cases r1
  exact wpAny_truthy_bool ⟨H1,I1,q⟩
variable {tA tB':TT} {rest:List Expr}
def tAnd (t u:TT):TT:=fun σ H Q=>t σ H fun c H1=>if c = true then u σ H1 Q else Q false H1
def tOr (t u:TT):TT:=fun σ H Q=>t σ H fun c H1=>if c = true then Q true H1 else u σ H1 Q
def tNot (t:TT):TT:=fun σ H Q=>t σ H fun c H1=>Q (!c) H1
theorem sE (ha:PT X a tA):PW X (.BoolOp .And [a] pos) tA:=by
  (try refine ⟨?_⟩); intro wh pins s σ H Q I h
  refine isTrue_and (thn (ha pins s σ H Q I h) fun c s1 e=>?_)
  cases c with
  | true=>exact isTrue_and_nil e
  | false=>exact e
theorem xh (ha:PT X a tA):PW X (.BoolOp .Or [a] pos) tA:=by
  (try refine ⟨?_⟩); intro wh pins s σ H Q I h
  refine isTrue_or (thn (ha pins s σ H Q I h) fun c s1 e=>?_)
  cases c with
  | false=>exact isTrue_or_nil e
  | true=>exact e
theorem w5 (ha:PT X a tA) (hb:PW X (.BoolOp .And (b :: rest) pos) tB'):PW X (.BoolOp .And (a :: b :: rest) pos) (tAnd tA tB'):=by
  (try refine ⟨?_⟩); intro wh pins s σ H Q I h
  refine isTrue_and (thn (ha pins s σ H _ I h) fun c s1 ⟨H1,I1,q1⟩=>?_)
  cases c with
  | true=>exact hb wh pins s1 σ H1 Q I1 q1
  | false=>exact ⟨H1,I1,q1⟩
theorem pw_or (ha:PT X a tA) (hb:PW X (.BoolOp .Or (b :: rest) pos) tB'):PW X (.BoolOp .Or (a :: b :: rest) pos) (tOr tA tB'):=by
  (try refine ⟨?_⟩); intro wh pins s σ H Q I h
  refine isTrue_or (thn (ha pins s σ H _ I h) fun c s1 ⟨H1,I1,q1⟩=>?_)
  cases c with
  | true=>exact ⟨H1,I1,q1⟩
  | false=>exact hb wh pins s1 σ H1 Q I1 q1
theorem xM (ha:PT X a tA):PT X (.UnaryOp .Not a pos) (tNot tA):=by
  (try refine ⟨?_⟩); intro pins s σ H Q I h
  exact isTrue_not (ha pins s σ H (fun c H1=>Q (!c) H1) I h)
def tAndV (ta tb:TE):TE:=fun σ H Q=>ta σ H fun x H1=>∃ c,x = .bl c ∧ if c = true then tb σ H1 Q else Q (.bl false) H1
def tNotV (ta:TE):TE:=fun σ H Q=>ta σ H fun x H1=>∃ c,x = .bl c ∧ Q (.bl (!c)) H1
theorem vP {op} {t:TE} (h:PE X a t):PE X (.BoolOp op [a] pos) t:=⟨fun pins s σ H Q I hw=>BoolOp_one (h pins s σ H Q I hw)⟩
theorem vE (ha:PE X a ta) (hb:PE X (.BoolOp .And (b :: rest) pos) tb):PE X (.BoolOp .And (a :: b :: rest) pos) (tAndV ta tb):=by
  (try refine ⟨?_⟩); intro pins s σ H Q I h
  refine BoolOp_and (thn (ha pins s σ H _ I h) fun v s1 ⟨x,H1,I1,r1,q1⟩=>?_)
  obtain ⟨c,rfl,q1⟩:=q1
  cases r1
  refine wpAny_truthy_bool ?_
  cases c with
  | true=>exact hb pins s1 σ H1 Q I1 q1
  | false=>exact ⟨.bl false,H1,I1,rfl,q1⟩
theorem w9 (ha:PE X a ta):PE X (.UnaryOp .Not a pos) (tNotV ta):=by
  (try refine ⟨?_⟩); intro pins s σ H Q I h
  refine UnaryOp_ (thn (ha pins s σ H _ I h) fun v s1 ⟨x,H1,I1,r1,q1⟩=>?_)
  obtain ⟨c,rfl,q1⟩:=q1
  cases r1
  exact not_of (wpAny_truthy_bool ⟨.bl (!c),H1,I1,rfl,q1⟩)
def tIf (t:TT) (ta tb:TE):TE:=fun σ H Q=>t σ H fun c H1=>if c = true then ta σ H1 Q else tb σ H1 Q
theorem rQ {c:Expr} (hc:PT X c tA) (ha:PE X a ta) (hb:PE X b tb):PE X (.IfExp c a b pos) (tIf tA ta tb):=by
  (try refine ⟨?_⟩); intro pins s σ H Q I h
  refine wpAny_IfExp (thn (hc pins s σ H _ I h) fun d s1 ⟨H1,I1,q1⟩=>?_)
  cases d with
  | true=>exact ha pins s1 σ H1 Q I1 q1
  | false=>exact hb pins s1 σ H1 Q I1 q1
end
def SqL (K:PySem.W.Frag) (H:Hp) (a:Addr) (xs:List V):Prop :=
  Rd H a (.lst xs) ∨
    ∃ (o:Obj) (its:Array Value) (n:Nat),K.lookup a = some o ∧ o.cls = .type "list" ∧ o.dict = none ∧ o.data = .seq its n ∧ its.size ≤ sizeLine ∧ aZ xs its.toList
def SqT (K:PySem.W.Frag) (H:Hp) (a:Addr) (xs:List V):Prop :=
  Rd H a (.tup xs) ∨
    ∃ (o:Obj) (its:Array Value) (n:Nat),K.lookup a = some o ∧ o.cls = .type "tuple" ∧ o.data = .seq its n ∧ its.size ≤ sizeLine ∧ aZ xs its.toList
def absV:Value → Option V
  | .none=>some .non
  | .bool b=>some (.bl b)
  | .int i _=>some (.int i)
  | .str x _=>some (.str x)
  | .bytes b _=>some (.byt b)
  | .float b _=>some (.flt b)
  | .ref a=>some (.ref a)
  | .type n=>some (.ty n)
  | _=>none
theorem a7.abs {x:V} {u:Value} (r:a7 x u):absV u = some x:=by
  cases x with
  | non=>cases r; rfl
  | bl _=>cases r; rfl
  | int _=>obtain ⟨t,rfl⟩:=r; rfl
  | str _=>obtain ⟨t,rfl⟩:=r; rfl
  | byt _=>obtain ⟨t,rfl⟩:=r; rfl
  | flt _=>obtain ⟨t,rfl⟩:=r; rfl
  | ref _=>cases r; rfl
  | ty _=>cases r; rfl
theorem a7.inj {x y:V} {u:Value} (r:a7 x u) (q:a7 y u):x = y:=Option.some.inj (r.abs.symm.trans q.abs)
theorem aZ.inj:∀ {xs ys:List V} {us:List Value},aZ xs us → aZ ys us → xs = ys
  | _,_,_,.nil,.nil=>rfl
  | _,_,_,.cons r t,.cons r' t'=>by rw [r.inj r',aZ.inj t t']
section
variable {X:Cx} {pins:List (Addr × Obj)} {σ:St} {H:Hp} {s:Shared} {a:Addr} {xs ys:List V}
theorem SqL.of {K:PySem.W.Frag} (h:H a = some (.lst xs)):SqL K H a xs:=.inl (.inl h)
theorem SqT.of {K:PySem.W.Frag} (h:H a = some (.tup xs)):SqT K H a xs:=.inl (.inl h)
theorem Inv.list (I:Inv X pins σ H s) (h:SqL X.K H a xs):∃ its:List Value,aZ xs its ∧ PlainL s.heap a its.toArray ∧ xs.length ≤ sizeLine:=by
  rcases h with h | ⟨o,its,n,hk,hc,hd,hs,hz,r⟩
  · obtain ⟨z,its,n,r,e⟩:=h.ok I.hok
    exact ⟨its,r,⟨_,n,e,rfl,rfl,rfl⟩,z⟩
  · refine ⟨its.toList,r,⟨o,n,I.kIn a o hk,hc,hd,by simpa using hs⟩,?_⟩
    have e:=r.length
    simp only [Array.length_toList] at e
    exact t_ hz e
theorem Inv.tuple (I:Inv X pins σ H s) (h:SqT X.K H a xs):∃ its:List Value,aZ xs its ∧ IsTup s.heap a its.toArray ∧ xs.length ≤ sizeLine:=by
  rcases h with h | ⟨o,its,n,hk,hc,hs,hz,r⟩
  · obtain ⟨z,its,r,p⟩:=h.ok I.hok
    exact ⟨its,r,p,z⟩
  · refine ⟨its.toList,r,⟨o,I.kIn a o hk,hc,n,by simpa using hs⟩,?_⟩
    have e:=r.length
    simp only [Array.length_toList] at e
    exact t_ hz e
theorem Inv.list_inj (I:Inv X pins σ H s) (h:SqL X.K H a xs) (h':SqL X.K H a ys):xs = ys:=by
  obtain ⟨its,r,⟨o,n,e,_,_,d⟩,_⟩:=I.list h
  obtain ⟨its',r',⟨o',n',e',_,_,d'⟩,_⟩:=I.list h'
  rw [e] at e'; cases e'
  rw [d] at d'
  injection d' with d1 _
  have:its = its':=by simpa using congrArg Array.toList d1
  subst this
  exact r.inj r'
end
abbrev Cx.wish (X:Cx) (E:Value → Shared → Prop):Cx:={ X with xe:=E }
abbrev Cx.nox (X:Cx):Cx:=X.wish fun _ _=>False
theorem Cx.Ok.wish {X:Cx} (ok:X.Ok) (E:Value → Shared → Prop):(X.wish E).Ok :=
  ⟨ok.mod,ok.kind,ok.glob,ok.blt,ok.above,ok.inj,ok.has,ok.cab,ok.hd,ok.frames,ok.stk,ok.exf,ok.bs,ok.bsz,ok.noex,ok.exfs,ok.funs,ok.frf⟩
theorem Cx.Ok.unwish {X:Cx} {E:Value → Shared → Prop} (ok:(X.wish E).Ok):X.Ok :=
  ⟨ok.mod,ok.kind,ok.glob,ok.blt,ok.above,ok.inj,ok.has,ok.cab,ok.hd,ok.frames,ok.stk,ok.exf,ok.bs,ok.bsz,ok.noex,ok.exfs,ok.funs,ok.frf⟩
section
variable {X:Cx} {pins:List (Addr × Obj)} {σ:St} {H:Hp} {s:Shared} {E:Value → Shared → Prop}
theorem Inv.wish (I:Inv X pins σ H s) (E:Value → Shared → Prop):Inv (X.wish E) pins σ H s:=⟨I.ok.wish E,I.os,I.bare,I.base,I.loc,I.cell,I.free,I.freeC,I.pin,I.hok,I.len⟩
theorem Inv.unwish (I:Inv (X.wish E) pins σ H s):Inv X pins σ H s:=⟨I.ok.unwish,I.os,I.bare,I.base,I.loc,I.cell,I.free,I.freeC,I.pin,I.hok,I.len⟩
theorem SP.unwish {D:Ends} {f:Flow} {s':Shared} (h:SP (X.wish E) pins D f s'):SP X pins D f s':=by
  cases f with
  | next=>obtain ⟨σ',H',I,q⟩:=h; exact ⟨σ',H',I.unwish,q⟩
  | brk=>obtain ⟨σ',H',I,q⟩:=h; exact ⟨σ',H',I.unwish,q⟩
  | cont=>obtain ⟨σ',H',I,q⟩:=h; exact ⟨σ',H',I.unwish,q⟩
  | ret u=>obtain ⟨v,σ',H',I,r,q⟩:=h; exact ⟨v,σ',H',I.unwish,r,q⟩
theorem PSs.nox {st:List Stmt} {t:TS} (h:PSs X.nox st t):PSs X st t:=⟨fun pins s σ H D I hw =>
  wpAny_mono (h pins s σ H D (I.wish _) hw) (fun _ _ q=>q.unwish) fun _ _ z=>False.elim z⟩
end
section
variable {X:Cx} {st:Stmt} {rest:List Stmt} {t u:TS} {e:Expr} {te:TE} {pos:Pos}
def tNext:TS:=fun D σ H=>D.nx σ H
def tSeq (t u:TS):TS:=fun D σ H=>t { D with nx:=u D } σ H
theorem sL:PSs X [] tNext:=⟨fun _ _ σ H _ I h=>wpAny_execs_nil ⟨σ,H,I,h⟩⟩
theorem qB (h1:PS X st t) (h2:PSs X rest u):PSs X (st :: rest) (tSeq t u):=by
  (try refine ⟨?_⟩); intro pins s σ H D I h
  refine wpAny_execs_cons (thn (h1 pins s σ H { D with nx:=u D } I h) fun f s1 q=>?_)
  cases f with
  | next =>
    obtain ⟨σ',H',I',q⟩:=q
    exact h2 pins s1 σ' H' D I' q
  | ret v=>exact q
  | brk=>exact q
  | cont=>exact q
theorem sO (h1:PS X st t):PSs X [st] t:=by
  (try refine ⟨?_⟩); intro pins s σ H D I h
  refine wpAny_execs_cons (thn (h1 pins s σ H D I h) fun f s1 q=>?_)
  cases f with
  | next=>exact wpAny_execs_nil q
  | ret v=>exact q
  | brk=>exact q
  | cont=>exact q
theorem Inv.quiet {pins:List (Addr × Obj)} {σ:St} {H:Hp} {s:Shared} (I:Inv X pins σ H s):interactive X.env = false:=by simp [interactive,I.ok.kind]
def tDrop (te:TE):TS:=fun D σ H=>te σ H fun _ H1=>D.nx σ H1
theorem gL (he:PE X e te) (hs:swapsWith e none pos.line X.env = pure false:=by rfl):PS X (.Expr e pos) (tDrop te):=by
  (try refine ⟨?_⟩); intro pins s σ H D I h
  exact wpAny_Expr_any (thn (he pins s σ H _ I h) fun v s1 ⟨x,H1,I1,r1,q1⟩=>⟨σ,H1,I1,q1⟩) I.quiet hs
def tRet (te:TE):TS:=fun D σ H=>te σ H D.rt
theorem qq (he:PE X e te):PS X (.Return (some e) pos) (tRet te):=by
  (try refine ⟨?_⟩); intro pins s σ H D I h
  exact wpAny_Return_some (thn (he pins s σ H _ I h) fun v s1 ⟨x,H1,I1,r1,q1⟩=>⟨x,σ,H1,I1,r1,q1⟩)
def tIfS (c:TT) (t u:TS):TS:=fun D σ H=>c σ H fun b H1=>if b = true then t D σ H1 else u D σ H1
theorem ps_if {c:Expr} {a b:List Stmt} {tc:TT} (hc:PT X c tc) (ha:PSs X a t) (hb:PSs X b u):PS X (.If c a b pos) (tIfS tc t u):=by
  (try refine ⟨?_⟩); intro pins s σ H D I h
  refine wpAny_If (thn (hc pins s σ H _ I h) fun d s1 ⟨H1,I1,q1⟩=>?_)
  cases d with
  | true=>exact ha pins s1 σ H1 D I1 q1
  | false=>exact hb pins s1 σ H1 D I1 q1
def xy:TS:=fun _ _ _=>False
theorem r9:PS X st xy:=⟨fun _ _ _ _ _ _ h=>h.elim⟩
end
abbrev TG:=V → St → Hp → (St → Hp → Prop) → Prop
abbrev TGs:=List V → St → Hp → (St → Hp → Prop) → Prop
structure PG (X:Cx) (target:Expr) (t:TG):Prop where
  go:∀ (pins:List (Addr × Obj)) (s:Shared) (σ:St) (H:Hp) (v:V) (u:Value) (Q:St → Hp → Prop),Inv X pins σ H s → a7 v u → t v σ H Q →
    wpAny (model X.prog X.w) X.A (assign target X.env u) (fun _ s'=>∃ σ' H',Inv X pins σ' H' s' ∧ Q σ' H') X.xe s
instance {X:Cx} {target:Expr} {t:TG}:CoeFun (PG X target t) fun _=>∀ (pins:List (Addr × Obj)) (s:Shared) (σ:St) (H:Hp) (v:V) (u:Value) (Q:St → Hp → Prop),Inv X pins σ H s → a7 v u → t v σ H Q →
    wpAny (model X.prog X.w) X.A (assign target X.env u) (fun _ s'=>∃ σ' H',Inv X pins σ' H' s' ∧ Q σ' H') X.xe s:=⟨fun h=>h.go⟩
structure PGs (X:Cx) (ts:List Expr) (t:TGs):Prop where
  go:∀ (pins:List (Addr × Obj)) (s:Shared) (σ:St) (H:Hp) (vs:List V) (us:List Value) (Q:St → Hp → Prop),Inv X pins σ H s → aZ vs us → t vs σ H Q →
    wpAny (model X.prog X.w) X.A (assignInOrder ((assignEach ts X.env).map (·.2)) us) (fun _ s'=>∃ σ' H',Inv X pins σ' H' s' ∧ Q σ' H') X.xe s
instance {X:Cx} {ts:List Expr} {t:TGs}:CoeFun (PGs X ts t) fun _=>∀ (pins:List (Addr × Obj)) (s:Shared) (σ:St) (H:Hp) (vs:List V) (us:List Value) (Q:St → Hp → Prop),Inv X pins σ H s → aZ vs us → t vs σ H Q →
    wpAny (model X.prog X.w) X.A (assignInOrder ((assignEach ts X.env).map (·.2)) us) (fun _ s'=>∃ σ' H',Inv X pins σ' H' s' ∧ Q σ' H') X.xe s:=⟨fun h=>h.go⟩
abbrev TSet:=V → V → V → Hp → (Hp → Prop) → Prop
def PSet (X:Cx) (t:TSet):Prop :=
  ∀ (pins:List (Addr × Obj)) (s:Shared) (σ:St) (H:Hp) (o i v:V) (ov iv u:Value) (Q:Hp → Prop),Inv X pins σ H s → a7 o ov → a7 i iv → a7 v u → t o i v H Q →
    wpAny (model X.prog X.w) X.A (setItem ov iv u) (fun _ s'=>∃ H',Inv X pins σ H' s' ∧ Q H') X.xe s
section
variable {X:Cx} {pos:Pos}
def hV (i:Nat):TG:=fun v σ H Q=>Q (σ.set i (some v)) H
theorem bc {i:Nat} {x:Str} (hN:X.N.Nodup) (hi:X.N[i]? = some x) (hx:Loc X.env.scope x) (hf:X.fn x = true ∨ X.env.scope.names.lookup x = some .local:=by first | exact .inl rfl | exact .inr rfl | assumption):PG X (.Name x pos) (hV i):=by
  (try refine ⟨?_⟩); intro pins s σ H v u Q I r h
  exact wpAny_assign_Name (fm I hN hi hx r (fun s' I'=>⟨_,H,I',h⟩) hf)
def gNil:TGs:=fun vs σ H Q=>vs = [] ∧ Q σ H
def uL (t:TG) (u:TGs):TGs:=fun vs σ H Q=>∃ v r,vs = v :: r ∧ t v σ H fun σ' H'=>u r σ' H' Q
theorem fY:PGs X [] gNil:=by
  (try refine ⟨?_⟩); intro pins s σ H vs us Q I r h
  obtain ⟨e,h⟩:=h
  subst e
  cases r
  exact assignInOrder_nil ⟨σ,H,I,h⟩
theorem ck {e:Expr} {es:List Expr} {t:TG} {u:TGs} (h1:PG X e t) (h2:PGs X es u)
    (hs:(assignEach (e :: es) X.env).map (·.2) = assign e X.env :: (assignEach es X.env).map (·.2):=by rfl):PGs X (e :: es) (uL t u):=by
  (try refine ⟨?_⟩); intro pins s σ H vs us Q I r h
  obtain ⟨v,vr,e1,h⟩:=h
  subst e1
  cases r with
  | cons r rr =>
    rw [hs]
    refine assignInOrder_cons (thn (h1 pins s σ H _ _ _ I r h) fun _ s1 ⟨σ1,H1,I1,q1⟩=>?_)
    exact h2 pins s1 σ1 H1 _ _ Q I1 rr q1
def gTup (K:PySem.W.Frag) (n:Nat) (t:TGs):TG:=fun v σ H Q=>∃ a xs,v = .ref a ∧ SqT K H a xs ∧ xs.length = n ∧ t xs σ H Q
theorem ic {es:List Expr} {k:Nat} {t:TGs} {n:Nat} (hc:X.calm = true) (h:PGs X es t)
    (hn:(assignEach es X.env).length = n:=by rfl) (hst:(assignEach es X.env).findIdx? (·.1) = none:=by rfl):PG X (.Tuple es k pos) (gTup X.K n t):=by
  (try refine ⟨?_⟩); intro pins s σ H v u Q I r hw
  obtain ⟨a,xs,e1,hq,hl,hw⟩:=hw
  subst e1
  cases r
  obtain ⟨its,rv,ht,hz⟩:=I.tuple hq
  refine assign_Tuple_tuple (I.ok.hd hc) ht (by simp [hn,← hl,rv.length]) hst fun h' hx=>?_
  have I1:Inv X pins σ H { s with heap:=h' }:=I.kept (t':=s.toks) fun b o e=>hx b o (Nat.ne_of_lt (Heap.lt_size e)) e
  exact h pins _ σ H xs _ Q I1 (by simpa using rv) hw
def gSub (to ti:TE) (t:TSet):TG:=fun v σ H Q=>to σ H fun o H1=>ti σ H1 fun i H2=>t o i v H2 fun H3=>Q σ H3
theorem xp {o i:Expr} {to ti:TE} {t:TSet} (ho:PE X o to) (hi:PE X i ti) (hs:PSet X t)
    (ha:∀ v,assign (.Subscript o i pos) X.env v = (do
      let ov ← holding [v] (eval o X.env)
      let iv ← holding [v,ov] (eval i X.env)
      standAt pos
      holding [v,ov,iv] (setItem ov iv v)
      release [v,ov,iv] []):=by intro _; rfl):PG X (.Subscript o i pos) (gSub to ti t):=by
  (try refine ⟨?_⟩); intro pins s σ H v u Q I r h
  rw [ha]
  refine wpAny_bind (wpAny_holding (thn (ho pins s σ H _ I h) fun ov s1 ⟨x,H1,I1,r1,q1⟩=>?_))
  refine wpAny_bind (wpAny_holding (thn (hi pins s1 σ H1 _ I1 q1) fun iv s2 ⟨y,H2,I2,r2,q2⟩=>?_))
  refine wpAny_bind (wpAny_standAt (wpAny_bind (wpAny_holding (thn (hs pins s2 σ H2 x y v ov iv u _ I2 r1 r2 r q2) fun _ s3 ⟨H3,I3,q3⟩=>?_))))
  exact wpAny_release ⟨σ,H3,I3,q3⟩
def qJ (te:TE) (g:TG):TS:=fun D σ H=>te σ H fun x H1=>g x σ H1 D.nx
theorem l5 {tg e:Expr} {te:TE} {g:TG} (he:PE X e te) (hg:PG X tg g) (hs:swapsWithSole [tg] e pos.line X.env = pure false:=by rfl) (hw:swappedStores [tg] e X.env = pure none:=by rfl)
    (h1:(assignEach [tg] X.env).map (·.2) = [assign tg X.env]:=by rfl):PS X (.Assign [tg] e pos) (qJ te g):=by
  (try refine ⟨?_⟩); intro pins s σ H D I h
  refine wpAny_Assign_stores (thn (he pins s σ H _ I h) fun v s1 ⟨x,H1,I1,r1,q1⟩=>?_) hs hw
  rw [h1]
  exact thn (hg pins s1 σ H1 x v _ I1 r1 q1) fun _ s2 q=>q
theorem mU {i:Nat} {x:Str} {e:Expr} {te:TE} {pos':Pos} (hN:X.N.Nodup) (hi:X.N[i]? = some x) (hx:Loc X.env.scope x) (he:PE X e te) (hs:swapsWith e (some (.Name x pos')) pos.line X.env = pure false:=by rfl) (hf:X.fn x = true ∨ X.env.scope.names.lookup x = some .local:=by first | exact .inl rfl | exact .inr rfl | assumption) :
    PS X (.Assign [.Name x pos'] e pos) (qJ te (hV i)):=by
  (try refine ⟨?_⟩); intro pins s σ H D I h
  refine wpAny_Assign_Name (thn (he pins s σ H _ I h) fun v s1 ⟨y,H1,I1,r1,q1⟩=>?_) hs
  exact fm I1 hN hi hx r1 (fun s2 I2=>⟨_,H1,I2,q1⟩) hf
def tPar (i j:Nat) (ta:TA):TS:=fun D σ H=>ta σ H fun vs H1=>∃ v w,vs = [v,w] ∧ D.nx ((σ.set i (some v)).set j (some w)) H1
theorem w_ {i j:Nat} {x y:Str} {a b:Expr} {ta:TA} {px py pt:Pos} {kt k2 pt2} (hc:X.calm = true) (hN:X.N.Nodup) (hi:X.N[i]? = some x) (hj:X.N[j]? = some y) (hij:i ≠ j)
    (hx:X.env.scope.names.lookup x = some .local) (hy:X.env.scope.names.lookup y = some .local) (ha:PA X [a,b] ta)
    (hw:swappedStores [.Tuple [.Name x px,.Name y py] kt pt] (.Tuple [a,b] k2 pt2) X.env = pure (some [x,y]))
    (hs:swapsWithSole [.Tuple [.Name x px,.Name y py] kt pt] (.Tuple [a,b] k2 pt2) pos.line X.env = pure false:=by rfl) :
    PS X (.Assign [.Tuple [.Name x px,.Name y py] kt pt] (.Tuple [a,b] k2 pt2) pos) (tPar i j ta):=by
  (try refine ⟨?_⟩); intro pins s σ H D I h
  rw [exec_Assign_arm]
  refine wpAny_bind (wpAny_standAt ?_)
  rw [hs]
  refine wpAny_bind (wpAny_pure ?_)
  rw [if_neg (by decide)]
  refine wpAny_bind (Tuple_ (thn (ha _ pins s σ H _ I h) fun us s1 ⟨vs,H1,I1,r1,q1⟩=>?_))
  obtain ⟨v,w,e1,q1⟩:=q1
  subst e1
  obtain ⟨u1,u2,rfl,rv,rw'⟩:∃ u1 u2,us = [u1,u2] ∧ a7 v u1 ∧ a7 w u2:=by
    cases r1 with
    | cons p q =>
      cases q with
      | cons p' q' =>
        cases q'
        exact ⟨_,_,rfl,p,p'⟩
  refine wpAny_newObj_type ?_ (by show 2 ≤ sizeLine; decide)
  have I2:Inv X pins σ H1 { s1 with heap:=s1.heap.push { cls:=.type "tuple",data:=.seq [u1,u2].toArray } }:=I1.kept (t':=s1.toks) fun b o e=>Heap.get?_push_of_some _ e
  rw [hw]
  refine wpAny_bind (wpAny_pure ?_)
  show wpAny (model X.prog X.w) X.A (do rule "assign.swapped-stores"; let items ← unpackItems (.ref s1.heap.objs.size) 2 none; assignInOrder [fun v=>bindName X.env y v,fun v=>bindName X.env x v] items.reverse; pure Flow.next) _ _ _
  refine wpAny_bind (wpAny_rule (wpAny_bind (unpackItems_tuple (items:=#[u1,u2]) (I.ok.hd hc) (IsTup.new s1.heap _) fun h' hx'=>?_)))
  have I3:=I2.kept (h':=h') (t':=s1.toks) fun b o e=>hx' b o (Nat.ne_of_lt (Heap.lt_size e)) e
  show wpAny _ _ (assignInOrder [fun v=>bindName X.env y v,fun v=>bindName X.env x v] [u2,u1] >>= fun _=>pure Flow.next) _ _ _
  refine wpAny_bind (assignInOrder_cons (wpAny_bindName (fm I3 hN hj (.inl hy) rw' (fun s2 I4=>?_) (.inr hy))))
  refine assignInOrder_cons (wpAny_bindName (fm I4 hN hi (.inl hx) rv (fun s3 I5=>assignInOrder_nil (wpAny_pure ?_)) (.inr hx)))
  rw [List.set_comm _ _ (Ne.symm hij)] at I5
  exact ⟨_,H1,I5,q1⟩
end
section
variable {X:Cx} {pos:Pos}
def xg (c:TT) (tb:TS):TS:=fun D σ H=>∃ W:Nat → St → Hp → Prop,(∃ m,W m σ H) ∧ ∀ m σ H,W m σ H →
  c σ H fun b H1=>if b = true then ∃ N:St → Hp → Prop,(∀ σ' H',N σ' H' → ∃ m',m' < m ∧ W m' σ' H') ∧ tb { D with nx:=N,ct:=N,bk:=D.nx } σ H1 else D.nx σ H1
theorem sj {c:Expr} {body:List Stmt} {tc:TT} {tb:TS} (hp:PassesOwn (model X.prog X.w) X.A X.env X.xe) (hc:PT X c tc) (hb:PSs X body tb):PS X (.While c body [] pos) (xg tc tb):=by
  (try refine ⟨?_⟩); intro pins s σ H D I h
  obtain ⟨W,⟨m0,w0⟩,turn⟩:=h
  refine wpAny_While (codeAny_whileLoop (fun n s'=>∃ σ' H',Inv X pins σ' H' s' ∧ W n σ' H') ?_ m0 ⟨σ,H,I,w0⟩)
  rintro n s1 ⟨σ1,H1,I1,w1⟩
  refine wpAny_passesOwn hp (thn (hc pins s1 σ1 H1 _ I1 (turn n σ1 H1 w1)) fun b s2 ⟨H2,I2,q2⟩=>?_)
  cases b with
  | true =>
    obtain ⟨N,hN,q2⟩:=q2
    rw [if_pos rfl]
    refine wpAny_passesOwn hp (thn (hb pins s2 σ1 H2 _ I2 q2) fun f s3 q3=>?_)
    cases f with
    | next =>
      obtain ⟨σ3,H3,I3,n3⟩:=q3
      obtain ⟨m',hm,w3⟩:=hN σ3 H3 n3
      exact ⟨m',hm,σ3,H3,I3,w3⟩
    | cont =>
      obtain ⟨σ3,H3,I3,n3⟩:=q3
      obtain ⟨m',hm,w3⟩:=hN σ3 H3 n3
      exact ⟨m',hm,σ3,H3,I3,w3⟩
    | brk=>exact q3
    | ret v=>exact q3
  | false =>
    rw [if_neg Bool.false_ne_true]
    exact wpAny_execs_nil ⟨σ1,H2,I2,q2⟩
end
structure It where
  go:Nat → Hp → Prop
  yld:Nat → Hp → V → Hp → Prop
  stop:Nat → Hp → Prop
def j8 (X:Cx) (pins:List (Addr × Obj)) (H:Hp) (b:Addr):Prop :=
  H b = none ∧ b ≠ X.env.locals ∧ b ∉ X.fs ∧ (b ∈ X.ex ∨ X.s₀.heap.objs.size ≤ b) ∧ (∀ x c,X.env.cells.lookup x = some c → c ≠ b) ∧ ∀ p ∈ X.pn ++ pins,p.1 ≠ b
theorem Inv.fpOk {X:Cx} {pins:List (Addr × Obj)} {σ:St} {H H':Hp} {s:Shared} {b:Addr} (I:Inv X pins σ H s) (hb:s.heap.objs.size ≤ b) (hn:H' b = none):j8 X pins H' b:=by
  refine ⟨hn,Nat.ne_of_gt (Nat.lt_of_lt_of_le I.lt hb),I.nofs hb,.inr (Nat.le_trans I.sz hb),fun x c e z=>?_,fun p hp z=>?_⟩
  · obtain ⟨v,q⟩:=I.cell x c e
    exact absurd (Nat.lt_of_lt_of_le q.lt (by rw [z]; exact hb)) (Nat.lt_irrefl _)
  · exact absurd (Nat.lt_of_lt_of_le (Heap.lt_size (I.pin p hp).1) (by rw [z]; exact hb)) (Nat.lt_irrefl _)
structure Turn (P:Program) (w:World) (K:PySem.W.Frag) (tg:Expr) (J:It) (fp:List Addr) (it:Addr) (tn:Nat → Heap → Prop):Prop where
  mem:it ∈ fp
  obj:∀ i h,tn i h → ∀ b ∈ fp,∃ o,h.get? b = some o ∧ ∀ v,o.data ≠ .cell v
  keep:∀ i h h',tn i h → (∀ b ∈ fp,∀ o,h.get? b = some o → h'.get? b = some o) → tn i h'
  item:∀ (X:Cx),X.prog = P → X.w = w → X.K = K → X.calm = true → ∀ (i:Nat) (pins:List (Addr × Obj)) (s:Shared) (σ:St) (H:Hp) (E:Value → Shared → Prop),Inv X pins σ H s → (∀ b ∈ fp,j8 X pins H b) → tn i s.heap → J.go i H →
    wpAny (model P w) X.A (pyNext (.ref it)) (fun r s1=>∃ u,r = some u ∧
      wpAny (model P w) X.A (letOwnedTupleGo tg (.ref it) u) (fun _ s2=>∃ x H',Inv X pins σ H' s2 ∧ a7 x u ∧ J.yld i H x H' ∧ tn (i + 1) s2.heap ∧ ∀ b ∈ fp,H' b = none) E s1) E s
  done:∀ (X:Cx),X.prog = P → X.w = w → X.K = K → X.calm = true → ∀ (i:Nat) (pins:List (Addr × Obj)) (s:Shared) (σ:St) (H:Hp) (E:Value → Shared → Prop),Inv X pins σ H s → (∀ b ∈ fp,j8 X pins H b) → tn i s.heap → J.stop i H →
    wpAny (model P w) X.A (pyNext (.ref it)) (fun r s1=>r = none ∧ Inv X pins σ H s1) E s
  self:∀ (A:Around) (i:Nat) (s:Shared) (Q:Value → Shared → Prop) (E:Value → Shared → Prop),tn i s.heap → Q (.ref it) s → wpAny (model P w) A (pyIter (.ref it)) Q E s
abbrev TI:=St → Hp → (It → Hp → Prop) → Prop
def PIE (X:Cx) (pins:List (Addr × Obj)) (σ:St) (tg:Expr) (R:It → Hp → Prop) (itv:Value) (s2:Shared):Prop :=
  ∃ (it:Addr) (fp:List Addr) (tn:Nat → Heap → Prop) (J:It) (H':Hp),itv = .ref it ∧ Inv X pins σ H' s2 ∧ Turn X.prog X.w X.K tg J fp it tn ∧ tn 0 s2.heap ∧ (∀ b ∈ fp,j8 X pins H' b) ∧ R J H'
structure PI (X:Cx) (tg iter:Expr) (wi:TI):Prop where
  go:∀ (pins:List (Addr × Obj)) (s:Shared) (σ:St) (H:Hp) (R:It → Hp → Prop),Inv X pins σ H s → wi σ H R →
    wpAny (model X.prog X.w) X.A (eval iter X.env) (fun v s1=>wpAny (model X.prog X.w) X.A (pyIter v) (PIE X pins σ tg R) X.xe s1) X.xe s
instance {X:Cx} {tg iter:Expr} {wi:TI}:CoeFun (PI X tg iter wi) fun _=>∀ (pins:List (Addr × Obj)) (s:Shared) (σ:St) (H:Hp) (R:It → Hp → Prop),Inv X pins σ H s → wi σ H R →
    wpAny (model X.prog X.w) X.A (eval iter X.env) (fun v s1=>wpAny (model X.prog X.w) X.A (pyIter v) (PIE X pins σ tg R) X.xe s1) X.xe s:=⟨fun h=>h.go⟩
theorem qZ {M:Model} {A:Around} {E:Value → Shared → Prop} {s:Shared} {tg:Expr} {it:Addr} {u:Value} {o:Obj} {n:String} {vs:Array Value} {Q:Unit → Shared → Prop} (ho:s.heap.get? it = some o) (hc:o.cls = .type n) (hd:o.data = .fields vs)
    (hn : ["enumerate","zip","dict_itemiterator","dict_reverseitemiterator","odict_iterator","itertools.zip_longest","itertools.pairwise"].contains n = false) (hQ:Q () s):wpAny M A (letOwnedTupleGo tg (.ref it) u) Q E s:=by
  unfold letOwnedTupleGo
  cases tg <;> first
    | exact wpAny_pure hQ
    | (cases u <;> first
        | exact wpAny_pure hQ
        | (refine wpAny_bind (wpAny_load ho ?_)
           rw [hc,hd]
           show wpAny M A (if (["enumerate","zip","dict_itemiterator","dict_reverseitemiterator","odict_iterator","itertools.zip_longest","itertools.pairwise"].contains n && vs[0]? == some (rawInt _)) = true then _ else _) Q E s
           rw [if_neg (by intro h; rw [hn,Bool.false_and] at h; cases h)]
           exact wpAny_pure hQ))
def Itl (K:PySem.W.Frag) (a:Addr):It :=
  ⟨fun i H=>∃ xs x,SqL K H a xs ∧ xs[i]? = some x,fun i H x H'=>H' = H ∧ ∀ xs,SqL K H a xs → xs[i]? = some x,fun i H=>∃ xs,SqL K H a xs ∧ xs.length ≤ i⟩
def Itr (lo:Int) (n:Nat):It:=⟨fun i _=>i < n,fun i H x H'=>H' = H ∧ x = .int (lo + i),fun i _=>n ≤ i⟩
theorem oO {P:Program} {w:World} {K:PySem.W.Frag} {tg:Expr} (a it:Addr):Turn P w K tg (Itl K a) [it] it (fun i h=>h.IsListIter it a i) where
  mem:=by simp
  obj:=fun i h st b hb=>by
    have e:b = it:=by simpa using hb
    subst e
    obtain ⟨o,e,c,d⟩:=st
    exact ⟨o,e,fun v z=>by rw [d] at z; cases z⟩
  keep:=fun i h h' st k=>st.at fun o e=>k it (by simp) o e
  item:=by
    intro X hP hw hK hc i pins s σ H E I hf st hg
    subst hP hw hK
    obtain ⟨xs,x,hq,hx⟩:=hg
    obtain ⟨its,rv,p,hz⟩:=I.list hq
    obtain ⟨u,hu,ru⟩:=rv.get hx
    obtain ⟨f0,f1,f2,f3,f4,f5⟩:=hf it (by simp)
    refine wpAny_pyNext_list_item st p.isList (x:=u) (by simpa using hu) fun h' st' sb=>?_
    have I1:Inv X pins σ H { s with heap:=h' }:=I.turned (t':=s.toks) (fun b o hb e=>(sb.2 b hb).trans e) f0 f1 f3 f4 f5
    obtain ⟨o,e,c,d⟩:=id st'
    exact ⟨u,rfl,qZ (s:={ s with heap:=h' }) e c d (by decide) ⟨x,H,I1,ru,⟨rfl,fun ys hy=>by rw [I.list_inj hy hq]; exact hx⟩,st',fun b hb=>(hf b hb).1⟩⟩
  done:=by
    intro X hP hw hK hc i pins s σ H E I hf st hg
    subst hP hw hK
    obtain ⟨xs,hq,hx⟩:=hg
    obtain ⟨its,rv,p,hz⟩:=I.list hq
    obtain ⟨f0,f1,f2,f3,f4,f5⟩:=hf it (by simp)
    have hl:=rv.length
    exact wpAny_pyNext_list_end (I.ok.hd hc) st p.isList (by simp; exact kR hx hl) fun h' eb=>⟨rfl,I.turned (t':=s.toks) (fun b o hb e=>eb b o hb e) f0 f1 f3 f4 f5⟩
  self:=fun _ _ _ _ _ st h=>wpAny_pyIter_listiter st h
theorem mW {P:Program} {w:World} {K:PySem.W.Frag} {tg:Expr} (it:Addr) (lo:Int) (n:Nat):Turn P w K tg (Itr lo n) [it] it (fun i h=>IsRangeIter h it (lo + (i:Nat) * 1) ((n:Int) - (i:Nat)) 1) where
  mem:=by simp
  obj:=fun i h st b hb=>by
    have e:b = it:=by simpa using hb
    subst e
    exact ⟨_,st,fun v z=>by
      have z':Data.fields _ = Data.cell v:=z
      cases z'⟩
  keep:=fun i h h' st k=>k it (by simp) _ st
  item:=by
    intro X hP hw hK hc i pins s σ H E I hf st hg
    subst hP hw hK
    obtain ⟨f0,f1,f2,f3,f4,f5⟩:=hf it (by simp)
    have W:=Walks.range (prog:=X.prog) (w:=X.w) (I.ok.hd hc) it lo 1 n
    refine W.item i s _ _ hg st fun v h' tk hv st' kk=>?_
    obtain ⟨t,rfl⟩:=hv
    have I1:Inv X pins σ H { s with heap:=h',toks:=tk }:=I.turned (fun b o hb e=>kk b o (by simpa using hb) e) f0 f1 f3 f4 f5
    refine ⟨_,rfl,qZ (s:={ s with heap:=h',toks:=tk }) (n:="range_iterator") st' rfl rfl (by decide) ⟨.int (lo + i),H,I1,⟨t,?_⟩,⟨rfl,rfl⟩,st',fun b hb=>(hf b hb).1⟩⟩
    rw [Int.mul_one]
  done:=by
    intro X hP hw hK hc i pins s σ H E I hf st hg
    subst hP hw hK
    obtain ⟨f0,f1,f2,f3,f4,f5⟩:=hf it (by simp)
    exact wpAny_pyNext_range_end (I.ok.hd hc) st (by have:n ≤ i:=hg; exact zo361 this) fun h' eb=>⟨rfl,I.turned (t':=s.toks) (fun b o hb e=>eb b o hb e) f0 f1 f3 f4 f5⟩
  self:=fun _ _ _ _ _ st h=>wpAny_pyIter_rangeiter st h
section
variable {X:Cx} {tg:Expr}
def iList (K:PySem.W.Frag) (tl:TE):TI:=fun σ H R=>tl σ H fun x H1=>∃ a,x = .ref a ∧ (∃ xs,SqL K H1 a xs) ∧ R (Itl K a) H1
theorem tJ {l:Expr} {tl:TE} (hl:PE X l tl):PI X tg l (iList X.K tl):=by
  (try refine ⟨?_⟩); intro pins s σ H R I h
  refine thn (hl pins s σ H _ I h) fun v s1 ⟨x,H1,I1,r1,q1⟩=>?_
  obtain ⟨a,e,⟨xs,hq⟩,q⟩:=q1
  subst e
  cases r1
  obtain ⟨its,rv,p,hz⟩:=I1.list hq
  refine wpAny_pyIter_list p.isList ?_
  refine ⟨s1.heap.objs.size,[s1.heap.objs.size],_,_,H1,rfl,I1.kept (t':=s1.toks) fun b o e=>Heap.get?_push_of_some _ e,oO a _,⟨_,Heap.get?_push_size _ rfl,rfl,rfl⟩,fun b hb=>?_,q⟩
  have e:b = s1.heap.objs.size:=by simpa using hb
  subst e
  exact I1.fpOk (Nat.le_refl _) (I1.hok.fresh (Nat.le_refl _))
theorem lK {pins:List (Addr × Obj)} {σ:St} {H:Hp} {s:Shared} {R:It → Hp → Prop} {E:Value → Shared → Prop} {lo hi:Int} {t u v:Tok} {tk:Nat} (I:Inv X pins σ H s) (h1 : -(2 ^ 62) ≤ lo) (h2:lo < 2 ^ 62) (h3 : -(2 ^ 62) ≤ hi) (h4:hi < 2 ^ 62)
    (q:R (Itr lo (hi - lo).toNat) H):wpAny (model X.prog X.w) X.A (pyIter (.ref s.heap.objs.size)) (PIE X pins σ tg R) E { s with heap:=s.heap.push { cls:=.type "range",data:=.fields #[.int lo t,.int hi u,.int 1 v] },toks:=tk }:=by
  refine wpAny_pyIter_range (IsRange.new ..) (small_one h1 h2 h3 h4) ?_
  have I1:Inv X pins σ H { s with heap:=s.heap.push { cls:=.type "range",data:=.fields #[.int lo t,.int hi u,.int 1 v] },toks:=tk }:=I.kept fun b o e=>Heap.get?_push_of_some _ e
  refine ⟨(s.heap.push { cls:=.type "range",data:=.fields #[.int lo t,.int hi u,.int 1 v] }).objs.size,[(s.heap.push { cls:=.type "range",data:=.fields #[.int lo t,.int hi u,.int 1 v] }).objs.size],_,_,H,rfl,
    I1.kept (t':=tk) fun b o e=>Heap.get?_push_of_some _ e,mW _ lo (hi - lo).toNat,?_,fun b hb=>?_,q⟩
  · have e1:lo + ((0:Nat):Int) * 1 = lo:=by simp
    have e2:(((hi - lo).toNat:Nat):Int) - ((0:Nat):Int) = Builtin.Range.rangeSize lo hi 1:=by rw [rangeSize_one]; split <;> (first|lia|omega)
    show IsRangeIter _ _ (lo + ((0:Nat):Int) * 1) ((((hi - lo).toNat:Nat):Int) - ((0:Nat):Int)) 1
    rw [e1,e2]
    exact Heap.get?_push_size _ rfl
  · have e:b = (s.heap.push { cls:=.type "range",data:=.fields #[.int lo t,.int hi u,.int 1 v] }).objs.size:=by simpa using hb
    subst e
    exact I1.fpOk (Nat.le_refl _) (I1.hok.fresh (Nat.le_refl _))
def iRng1 (ta:TA):TI:=fun σ H R=>ta σ H fun vs H1=>∃ j:Int,vs = [.int j] ∧ -(2 ^ 62) ≤ j ∧ j < 2 ^ 62 ∧ R (Itr 0 j.toNat) H1
def iRng2 (ta:TA):TI:=fun σ H R=>ta σ H fun vs H1=>∃ i j:Int,vs = [.int i,.int j] ∧ (-(2 ^ 62) ≤ i ∧ i < 2 ^ 62 ∧ -(2 ^ 62) ≤ j ∧ j < 2 ^ 62) ∧ R (Itr i (j - i).toNat) H1
theorem om {a:Expr} {ta:TA} {p pos:Pos} (hg:Gl X "range") (hm:X.mg "range" = none) (ha:PA X [a] ta) (hs:starEach [a] X.env = [(false,eval a X.env)]:=by rfl):PI X tg (.Call (.Name "range" p) [a] [] pos) (iRng1 ta):=by
  (try refine ⟨?_⟩); intro pins s σ H R I h
  refine Call_ (eD I hg hm boot_range (PyProof.Rows.callWith_type1 (thn (ha pos pins s σ H _ I h) fun us s1 ⟨vs,H1,I1,r1,q1⟩=>?_) hs rfl))
  obtain ⟨j,e,q1,q2,q⟩:=q1
  subst e
  cases r1 with
  | cons r rr =>
    cases rr
    obtain ⟨t,rfl⟩:=r
    exact call_range_1 (lK I1 (by exact zo378) (by exact zo380) q1 q2 (by simpa using q))
theorem o0 {a b:Expr} {ta:TA} {p pos:Pos} (hg:Gl X "range") (hm:X.mg "range" = none) (ha:PA X [a,b] ta) (hs:starEach [a,b] X.env = [(false,eval a X.env),(false,eval b X.env)]:=by rfl) (hs2:starEach [b] X.env = [(false,eval b X.env)]:=by rfl) :
    PI X tg (.Call (.Name "range" p) [a,b] [] pos) (iRng2 ta):=by
  (try refine ⟨?_⟩); intro pins s σ H R I h
  refine Call_ (eD I hg hm boot_range (PyProof.Rows.callWith_type1 (thn (ha pos pins s σ H _ I h) fun us s1 ⟨vs,H1,I1,r1,q1⟩=>?_) (by rw [hs,hs2]) (by rw [hs2]; rfl)))
  obtain ⟨i,j,e,⟨q1,q2,q3,q4⟩,q⟩:=q1
  subst e
  cases r1 with
  | cons r rr =>
    cases rr with
    | cons r' rr =>
      cases rr
      obtain ⟨t,rfl⟩:=r
      obtain ⟨t',rfl⟩:=r'
      exact call_range_2 (lK I1 q1 q2 q3 q4 q)
def tFor (wi:TI) (g:TG) (tb:TS):TS:=fun D σ H=>wi σ H fun J H1=>∃ W:Nat → Nat → St → Hp → Prop,(∃ m,W 0 m σ H1) ∧ ∀ i m σ H,W i m σ H →
  (J.stop i H ∧ D.nx σ H) ∨ (J.go i H ∧ ∃ N:St → Hp → Prop,(∀ σ' H',N σ' H' → ∃ m',m' < m ∧ W (i + 1) m' σ' H') ∧ ∀ x H',J.yld i H x H' → g x σ H' fun σ2 H2=>tb { D with nx:=N,ct:=N,bk:=D.nx } σ2 H2)
def ii (fp:List Addr) (h:Heap):List (Addr × Obj):=fp.filterMap fun b=>(h.get? b).map fun o=>(b,o)
theorem cy {fp:List Addr} {h:Heap} {b:Addr} {o:Obj} (hb:b ∈ fp) (e:h.get? b = some o):(b,o) ∈ ii fp h:=List.mem_filterMap.mpr ⟨b,hb,by rw [e]; rfl⟩
theorem iJ {fp:List Addr} {h:Heap} {p:Addr × Obj} (hp:p ∈ ii fp h):p.1 ∈ fp ∧ h.get? p.1 = some p.2:=by
  obtain ⟨b,hb,e⟩:=List.mem_filterMap.mp hp
  cases q:h.get? b with
  | none=>rw [q] at e; cases e
  | some o =>
    rw [q] at e
    have e':(b,o) = p:=Option.some.inj e
    subst e'
    exact ⟨hb,q⟩
theorem Inv.pinned {pins:List (Addr × Obj)} {σ:St} {H:Hp} {s:Shared} {fp:List Addr} (I:Inv X pins σ H s) (hf:∀ b ∈ fp,j8 X pins H b) (ho:∀ b ∈ fp,∃ o,s.heap.get? b = some o ∧ ∀ v,o.data ≠ .cell v):Inv X (pins ++ ii fp s.heap) σ H s :=
  I.pins_of fun p hp=>(List.mem_append.mp hp).elim (fun z=>I.pin p (List.mem_append_right _ z)) fun z=>by
    obtain ⟨hb,e⟩:=iJ z
    obtain ⟨f0,f1,f2,_⟩:=hf p.1 hb
    obtain ⟨o,e',d⟩:=ho p.1 hb
    rw [e] at e'; cases e'
    exact ⟨e,f0,f1,f2,d⟩
theorem Inv.unpinned {pins pl:List (Addr × Obj)} {σ:St} {H:Hp} {s:Shared} (I:Inv X (pins ++ pl) σ H s):Inv X pins σ H s:=I.pins_of fun p hp=>I.pin p (List.mem_append_right _ (List.mem_append_left _ hp))
theorem vG {iter:Expr} {body:List Stmt} {wi:TI} {g:TG} {tb:TS} {pos:Pos} (hp:PassesOwn (model X.prog X.w) X.A X.env X.xe) (hc:X.calm = true) (hi:PI X tg iter wi) (hg:PG X tg g) (hb:PSs X body tb)
    (hs:∀ x,foldedSetIterable iter X.env x = pure x:=by intro _; rfl):PS X (.For tg iter body [] pos) (tFor wi g tb):=by
  (try refine ⟨?_⟩); intro pins s σ H D I h
  refine wpAny_For (thn (hi pins s σ H _ I h) fun v s1 h1=>thn h1 fun itv s2 h2=>?_) hs
  obtain ⟨it,fp,tn,J,H2,e,I2,T,st2,f2,W,⟨m0,w0⟩,turn⟩:=h2
  subst e
  -- what stays true of the iterator's objects through the loop
  have stat:∀ {H':Hp},(∀ b ∈ fp,H' b = none) → ∀ b ∈ fp,j8 X pins H' b:=fun hn b hb=>⟨hn b hb,(f2 b hb).2⟩
  refine codeAny_forLoop_any (fun n s'=>∃ i σ' H',Inv X pins σ' H' s' ∧ tn i s'.heap ∧ (∀ b ∈ fp,H' b = none) ∧ W i n σ' H') ?_ m0 ⟨0,σ,H2,I2,st2,fun b hb=>(f2 b hb).1,w0⟩
  rintro n s3 ⟨i,σ3,H3,I3,st3,fr3,w3⟩
  rcases turn i n σ3 H3 w3 with ⟨stop,qn⟩ | ⟨go,N,hN,step⟩
  · refine wpAny_passesOwn hp (thn (T.done X rfl rfl rfl hc i pins s3 σ3 H3 X.xe I3 (stat fr3) st3 stop) fun r s4 ⟨hr,I4⟩=>?_)
    subst hr
    exact wpAny_execs_nil ⟨σ3,H3,I4,qn⟩
  · refine wpAny_passesOwn hp (thn (T.item X rfl rfl rfl hc i pins s3 σ3 H3 X.xe I3 (stat fr3) st3 go) fun r s4 ⟨u,hr,h4⟩=>?_)
    subst hr
    refine wpAny_passesOwn hp (thn h4 fun _ s5 ⟨x,H5,I5,r5,y5,st5,fr5⟩=>?_)
    have I5':=I5.pinned (stat fr5) (T.obj _ _ st5)
    refine wpAny_passesOwn hp (thn (hg _ s5 σ3 H5 x u _ I5' r5 (step x H5 y5)) fun _ s6 ⟨σ6,H6,I6,q6⟩=>?_)
    refine wpAny_passesOwn hp (thn (hb _ s6 σ6 H6 _ I6 q6) fun f s7 q7=>?_)
    have again:∀ {σ7:St} {H7:Hp},Inv X (pins ++ ii fp s5.heap) σ7 H7 s7 → N σ7 H7 → ∃ m,m < n ∧ ∃ i σ' H',Inv X pins σ' H' s7 ∧ tn i s7.heap ∧ (∀ b ∈ fp,H' b = none) ∧ W i m σ' H':=fun {σ7 H7} I7 n7=>by
      obtain ⟨m',hm,w7⟩:=hN σ7 H7 n7
      refine ⟨m',hm,i + 1,σ7,H7,I7.unpinned,T.keep _ _ _ st5 fun b hb o e=>(I7.pin (b,o) (List.mem_append_right _ (List.mem_append_right _ (cy hb e)))).1,fun b hb=>?_,w7⟩
      obtain ⟨o,e,d⟩:=T.obj _ _ st5 b hb
      exact (I7.pin (b,o) (List.mem_append_right _ (List.mem_append_right _ (cy hb e)))).2.1
    cases f with
    | next=>obtain ⟨σ7,H7,I7,n7⟩:=q7; exact again I7 n7
    | cont=>obtain ⟨σ7,H7,I7,n7⟩:=q7; exact again I7 n7
    | brk=>obtain ⟨σ7,H7,I7,q7⟩:=q7; exact ⟨σ7,H7,I7.unpinned,q7⟩
    | ret v=>obtain ⟨x7,σ7,H7,I7,r7,q7⟩:=q7; exact ⟨x7,σ7,H7,I7.unpinned,r7,q7⟩
end
abbrev R2:=V → V → Hp → VK → Prop
def OpR (X:Cx) (f:Value → Value → Sem Value) (r:R2):Prop :=
  ∀ (pins:List (Addr × Obj)) (s:Shared) (σ:St) (H:Hp) (x y:V) (v u:Value) (Q:VK),Inv X pins σ H s → a7 x v → a7 y u → r x y H Q →
    wpAny (model X.prog X.w) X.A (f v u) (EP X pins σ Q) X.xe s
def UnR (X:Cx) (f:Value → Sem Value) (r:V → Hp → VK → Prop):Prop :=
  ∀ (pins:List (Addr × Obj)) (s:Shared) (σ:St) (H:Hp) (x:V) (v:Value) (Q:VK),Inv X pins σ H s → a7 x v → r x H Q →
    wpAny (model X.prog X.w) X.A (f v) (EP X pins σ Q) X.xe s
def cq (X:Cx) (f:Value) (r:List V → Hp → VK → Prop):Prop :=
  ∀ (pins:List (Addr × Obj)) (s:Shared) (σ:St) (H:Hp) (xs:List V) (us:List Value) (Q:VK),Inv X pins σ H s → aZ xs us → r xs H Q →
    wpAny (model X.prog X.w) X.A (call f us) (EP X pins σ Q) X.xe s
def TruR (X:Cx) (r:V → Hp → (Bool → Hp → Prop) → Prop):Prop :=
  ∀ (pins:List (Addr × Obj)) (s:Shared) (σ:St) (H:Hp) (x:V) (v:Value) (Q:Bool → Hp → Prop),Inv X pins σ H s → a7 x v → r x H Q →
    wpAny (model X.prog X.w) X.A (truthy v) (TP X pins σ Q) X.xe s
def tOp (r:R2) (ta tb:TE):TE:=fun σ H Q=>ta σ H fun x H1=>tb σ H1 fun y H2=>r x y H2 Q
def tUn (r:V → Hp → VK → Prop) (ta:TE):TE:=fun σ H Q=>ta σ H fun x H1=>r x H1 Q
def rI (C:Int → Int → Prop) (g:Int → Int → V):R2:=fun x y H Q=>∃ i j,x = .int i ∧ y = .int j ∧ C i j ∧ Q (g i j) H
def rI0 (g:Int → Int → V):R2:=fun x y H Q=>∃ i j,x = .int i ∧ y = .int j ∧ Q (g i j) H
def rU (g:Int → V):V → Hp → VK → Prop:=fun x H Q=>∃ i,x = .int i ∧ Q (g i) H
section
variable {X:Cx} {a b c:Expr} {ta tb tc:TE} {pos:Pos}
theorem binT (ha:PE X a ta) (hb:PE X b tb) {pins:List (Addr × Obj)} {s:Shared} {σ:St} {H:Hp} {R:V → V → Hp → Prop} (I:Inv X pins σ H s)
    (h:ta σ H fun x H1=>tb σ H1 fun y H2=>R x y H2) {Q:Value → Shared → Prop} {f:Value → Value → Sem Value}
    (hf:∀ v u s2 x y H2,Inv X pins σ H2 s2 → a7 x v → a7 y u → R x y H2 → wpAny (model X.prog X.w) X.A (f v u) Q X.xe s2) :
    wpAny (model X.prog X.w) X.A (eval a X.env) (fun v s₁=>wpAny (model X.prog X.w) X.A (eval b X.env) (fun u s₂=>wpAny (model X.prog X.w) X.A (f v u) Q X.xe s₂) X.xe s₁) X.xe s:=by
  refine thn (ha pins s σ H _ I h) fun v s1 ⟨x,H1,I1,r1,q1⟩=>?_
  refine thn (hb pins s1 σ H1 _ I1 q1) fun u s2 ⟨y,H2,I2,r2,q2⟩=>?_
  exact hf v u s2 x y H2 I2 r1 r2 q2
theorem nY {op:Operator} {r:R2} (ho:OpR X (binaryOp op) r) (ha:PE X a ta) (hb:PE X b tb):PE X (.BinOp a op b pos) (tOp r ta tb):=by
  (try refine ⟨?_⟩); intro pins s σ H Q I h
  exact wpAny_BinOp (binT ha hb I h fun v u s2 x y H2 I2 rx ry q=>ho pins s2 σ H2 x y v u Q I2 rx ry q)
theorem pe_un {op:UnaryOp} {r:V → Hp → VK → Prop} (ho:UnR X (unaryOp op) r) (ha:PE X a ta):PE X (.UnaryOp op a pos) (tUn r ta):=by
  (try refine ⟨?_⟩); intro pins s σ H Q I h
  exact UnaryOp_ (thn (ha pins s σ H _ I h) fun v s1 ⟨x,H1,I1,r1,q1⟩=>ho pins s1 σ H1 x v Q I1 r1 q1)
theorem opI {f:Value → Value → Sem Value} {C:Int → Int → Prop} {g:Int → Int → Int}
    (rule:∀ (i j:Int) (t u:Tok) (s:Shared) (Q:Value → Shared → Prop) (E:Value → Shared → Prop),C i j → Q (.int (g i j) s.toks) { s with toks:=s.toks + 1 } → wpAny (model X.prog X.w) X.A (f (.int i t) (.int j u)) Q E s) :
    OpR X f (rI C fun i j=>.int (g i j)):=by
  (try refine ⟨?_⟩); intro pins s σ H x y v u Q I rx ry h
  obtain ⟨i,j,rfl,rfl,hc,q⟩:=h
  obtain ⟨t,rfl⟩:=rx
  obtain ⟨t',rfl⟩:=ry
  exact rule i j t t' s _ _ hc ⟨.int (g i j),H,I.tok _,⟨_,rfl⟩,q⟩
theorem opI0 {f:Value → Value → Sem Value} {g:Int → Int → Int}
    (rule:∀ (i j:Int) (t u:Tok) (s:Shared) (Q:Value → Shared → Prop) (E:Value → Shared → Prop),Q (.int (g i j) s.toks) { s with toks:=s.toks + 1 } → wpAny (model X.prog X.w) X.A (f (.int i t) (.int j u)) Q E s) :
    OpR X f (rI0 fun i j=>.int (g i j)):=by
  (try refine ⟨?_⟩); intro pins s σ H x y v u Q I rx ry h
  obtain ⟨i,j,rfl,rfl,q⟩:=h
  obtain ⟨t,rfl⟩:=rx
  obtain ⟨t',rfl⟩:=ry
  exact rule i j t t' s _ _ ⟨.int (g i j),H,I.tok _,⟨_,rfl⟩,q⟩
theorem opB0 {f:Value → Value → Sem Value} {g:Int → Int → Bool}
    (rule:∀ (i j:Int) (t u:Tok) (s:Shared) (Q:Value → Shared → Prop) (E:Value → Shared → Prop),Q (.bool (g i j)) s → wpAny (model X.prog X.w) X.A (f (.int i t) (.int j u)) Q E s) :
    OpR X f (rI0 fun i j=>.bl (g i j)):=by
  (try refine ⟨?_⟩); intro pins s σ H x y v u Q I rx ry h
  obtain ⟨i,j,rfl,rfl,q⟩:=h
  obtain ⟨t,rfl⟩:=rx
  obtain ⟨t',rfl⟩:=ry
  exact rule i j t t' s _ _ ⟨.bl (g i j),H,I,rfl,q⟩
def CDiv (i j:Int):Prop:=0 < j ∧ j < 1073741824
def CPow (i j:Int):Prop:=0 ≤ j ∧ j ≤ 1000000 ∧ i.natAbs < 2 ^ 64
def CMul (i j:Int):Prop:=(-(2 ^ 64) < i ∧ i < 2 ^ 64) ∨ (-(2 ^ 64) < j ∧ j < 2 ^ 64)
theorem CMul.ok {i j:Int} (h:CMul i j):IntMulOk i j:=by
  rcases h with ⟨h1,h2⟩ | ⟨h1,h2⟩
  · exact .of_left (intBits_le_64 h1 h2)
  · exact .of_right (intBits_le_64 h1 h2)
theorem bh:OpR X (binaryOp .Add) (rI0 fun i j=>.int (i + j)):=opI0 fun _ _ _ _ _ _ _ q=>add_int q
theorem bR:OpR X (binaryOp .Sub) (rI0 fun i j=>.int (i - j)):=opI0 fun _ _ _ _ _ _ _ q=>sub_int q
theorem fh:OpR X (binaryOp .Mult) (rI CMul fun i j=>.int (i * j)):=opI fun _ _ _ _ _ _ _ hc q=>mul_int q hc.ok
theorem jX:OpR X (binaryOp .FloorDiv) (rI CDiv fun i j=>.int (i / j)):=opI fun i j _ _ _ _ _ hc q=>by
  have h1:(0:Int) < j:=hc.1
  have h2:j < 1073741824:=hc.2
  exact floordiv_int (by exact zo364 h1 h2) (by rw [Int.fdiv_eq_ediv_of_nonneg i (by exact zo355 h1 h2)]; exact q) (.inl (PyProof.noPylong_small (by (first|lia|omega))))
theorem dh:OpR X (binaryOp .Mod) (rI (fun _ j=>0 < j) fun i j=>.int (i % j)):=opI fun i j _ _ _ _ _ hc q=>by
  have h1:(0:Int) < j:=hc
  exact mod_int' (by exact zo379 hc) (by rw [Int.fmod_eq_emod_of_nonneg i (by exact zo374 hc)]; exact q)
theorem ir:OpR X (binaryOp .Pow) (rI CPow fun i j=>.int (i ^ j.toNat)):=opI fun _ _ _ _ _ _ _ hc q=>pow_int_small hc.1 hc.2.1 hc.2.2 q
theorem unI {f:Value → Sem Value} {g:Int → Int}
    (rule:∀ (i:Int) (t:Tok) (s:Shared) (Q:Value → Shared → Prop) (E:Value → Shared → Prop),Q (.int (g i) s.toks) { s with toks:=s.toks + 1 } → wpAny (model X.prog X.w) X.A (f (.int i t)) Q E s) :
    UnR X f (rU fun i=>.int (g i)):=by
  (try refine ⟨?_⟩); intro pins s σ H x v Q I rx h
  obtain ⟨i,rfl,q⟩:=h
  obtain ⟨t,rfl⟩:=rx
  exact rule i t s _ _ ⟨.int (g i),H,I.tok _,⟨_,rfl⟩,q⟩
theorem vQ:UnR X (unaryOp .USub) (rU fun i=>.int (-i)):=unI fun _ _ _ _ _ q=>neg_int q
end
section
variable {X:Cx} {a b c:Expr} {ta tb tc:TE} {pos:Pos}
theorem qK {pins:List (Addr × Obj)} {σ:St} {H:Hp} {s:Shared} {Q:VK} {k k':Bool} (I:Inv X pins σ H s) (q:Q (.bl k) H) (e:k = k'):EP X pins σ Q (.bool k') s:=by
  subst e
  exact ⟨.bl k,H,I,rfl,q⟩
theorem nF:OpR X (compareOp .Lt) (rI0 fun i j=>.bl (decide (i < j))):=opB0 fun _ _ _ _ _ _ _ q=>lt_int q
theorem jI:OpR X (compareOp .LtE) (rI0 fun i j=>.bl (decide (i ≤ j))):=opB0 fun _ _ _ _ _ _ _ q=>le_int q
theorem gw:OpR X (compareOp .Gt) (rI0 fun i j=>.bl (decide (j < i))):=opB0 fun _ _ _ _ _ _ _ q=>gt_int q
theorem vm:OpR X (compareOp .Is) (fun x y H Q=>y = .non ∧ Q (.bl (decide (x = .non))) H):=by
  (try refine ⟨?_⟩); intro pins s σ H x y v u Q I rx ry h
  obtain ⟨rfl,q⟩:=h
  cases ry
  refine is_none_gen (qK I q ?_)
  cases x <;> first
    | (cases rx; rfl)
    | (obtain ⟨t,rfl⟩:=rx; rfl)
theorem sJ:OpR X (compareOp .IsNot) (fun x y H Q=>y = .non ∧ Q (.bl (!decide (x = .non))) H):=by
  (try refine ⟨?_⟩); intro pins s σ H x y v u Q I rx ry h
  obtain ⟨rfl,q⟩:=h
  cases ry
  refine isnot_none_gen (qK I q ?_)
  cases x <;> first
    | (cases rx; rfl)
    | (obtain ⟨t,rfl⟩:=rx; rfl)
theorem aP (b:Expr) {op:CmpOp} (h:op ≠ .In:=by decide) (h2:op ≠ .NotIn:=by decide):behindInMarks op b = false:=by
  have e1:(op == CmpOp.In) = false:=by cases op <;> first | rfl | exact absurd rfl h
  have e2:(op == CmpOp.NotIn) = false:=by cases op <;> first | rfl | exact absurd rfl h2
  cases b <;> simp [behindInMarks,e1,e2]
theorem tp {op:CmpOp} {r:R2} (ho:OpR X (compareOp op) r) (ha:PE X a ta) (hb:PE X b tb) (hm:behindInMarks op b = false):PE X (.Compare a [op] [b] pos) (tOp r ta tb):=by
  (try refine ⟨?_⟩); intro pins s σ H Q I h
  exact wpAny_Compare1 (binT ha hb I h fun v u s2 x y H2 I2 rx ry q=>ho pins s2 σ H2 x y v u Q I2 rx ry q) hm
def uN (t:TE):TT:=fun σ H Q=>t σ H fun x H'=>∃ k,x = .bl k ∧ Q k H'
theorem tN {op:CmpOp} {r:R2} (ho:OpR X (compareOp op) r) (ha:PE X a ta) (hb:PE X b tb) (hm:behindInMarks op b = false):PT X (.Compare a [op] [b] pos) (uN (tOp r ta tb)):=by
  (try refine ⟨?_⟩); intro pins s σ H Q I h
  refine wpAny_isTrue_Compare1 (thn (ha pins s σ H _ I h) fun v s1 ⟨x,H1,I1,r1,q1⟩=>thn (hb pins s1 σ H1 _ I1 q1) fun u s2 ⟨y,H2,I2,r2,q2⟩ =>
    thn (ho pins s2 σ H2 x y v u _ I2 r1 r2 q2) fun c s3 ⟨z,H3,I3,r3,k,e,q3⟩=>?_) hm
  subst e
  cases r3
  exact wpAny_truthy_bool ⟨H3,I3,q3⟩
def pM (r r':R2) (ta tb tc:TE):TE:=fun σ H Q=>ta σ H fun x H1=>tb σ H1 fun y H2=>r x y H2 fun z H3=>∃ k,z = .bl k ∧
  (if k = true then tc σ H3 fun w' H4=>r' y w' H4 Q else Q (.bl false) H3)
theorem rj {op op':CmpOp} {r r':R2} (ho:OpR X (compareOp op) r) (ho':OpR X (compareOp op') r') (ha:PE X a ta) (hb:PE X b tb) (hc:PE X c tc)
    (hm:lastMarks [op,op'] [b,c] = false:=by with_unfolding_all rfl):PE X (.Compare a [op,op'] [b,c] pos) (pM r r' ta tb tc):=by
  (try refine ⟨?_⟩); intro pins s σ H Q I h
  refine Compare_chain (thn (ha pins s σ H _ I h) fun v s1 ⟨x,H1,I1,r1,q1⟩=>chain_link (thn (hb pins s1 σ H1 _ I1 q1) fun u s2 ⟨y,H2,I2,r2,q2⟩ =>
    thn (ho pins s2 σ H2 x y v u _ I2 r1 r2 q2) fun d s3 ⟨z,H3,I3,r3,k,e,q3⟩=>?_)) hm
  subst e
  cases r3
  refine wpAny_truthy_bool ?_
  cases k with
  | false=>exact ite_ff ⟨.bl false,H3,I3,rfl,q3⟩
  | true=>exact ite_tt (chain_last (thn (hc pins s3 σ H3 _ I3 q3) fun w' s4 ⟨z',H4,I4,r4,q4⟩=>ho' pins s4 σ H4 y z' u w' Q I4 r2 r4 q4))
def TruV (K:PySem.W.Frag) (x:V) (H:Hp) (k:Bool):Prop :=
  match x with
  | .non=>k = false
  | .bl b=>k = b
  | .int i=>k = (i != 0)
  | .str y=>y.length ≤ sizeLine ∧ k = ((y.length:Int) != 0)
  | .byt y=>y.size ≤ sizeLine ∧ k = ((y.size:Int) != 0)
  | .ref p=>(∃ xs,SqL K H p xs ∧ k = !xs.isEmpty) ∨ (∃ xs,SqT K H p xs ∧ k = !xs.isEmpty) ∨ ∃ kvs,H p = some (.dK kvs) ∧ k = !kvs.isEmpty
  | _=>False
theorem mq {κ:Type} {kvs:List (κ × V)} {vs:List (κ × Value)} (r:KV kvs vs):(!vs.isEmpty) = !kvs.isEmpty:=by
  cases r <;> rfl
theorem ik {xs:List V} {its:List Value} (r:aZ xs its):(!its.toArray.isEmpty) = !xs.isEmpty:=by
  cases r <;> simp
theorem f7:(sizeLine:Nat) < 2 ^ 63:=by rw [sizeLine_eq]; decide
theorem vD:TruR X (fun x H Q=>∃ k,TruV X.K x H k ∧ Q k H):=by
  (try refine ⟨?_⟩); intro pins s σ H x v Q I rx h
  obtain ⟨k,e,q⟩:=h
  have hl:=f7
  have hs:sizeLine = 16777216:=sizeLine_eq
  cases x with
  | non =>
    cases rx
    have e':k = false:=e
    subst e'
    exact truthy_none ⟨H,I,q⟩
  | bl b =>
    cases rx
    have e':k = b:=e
    subst e'
    exact wpAny_truthy_bool ⟨H,I,q⟩
  | int i =>
    obtain ⟨t,rfl⟩:=rx
    have e':k = (i != 0):=e
    subst e'
    exact PySem.P.truthy_int ⟨H,I,q⟩
  | str y =>
    obtain ⟨t,rfl⟩:=rx
    obtain ⟨hy,e'⟩:y.length ≤ sizeLine ∧ k = ((y.length:Int) != 0):=e
    subst e'
    exact PySem.P.truthy_str (by exact zo336 hs hy) ⟨H,I.tok _,q⟩
  | byt y =>
    obtain ⟨t,rfl⟩:=rx
    obtain ⟨hy,e'⟩:y.size ≤ sizeLine ∧ k = ((y.size:Int) != 0):=e
    subst e'
    exact PySem.W.truthy_bytes (by exact zo341 hs hy) ⟨H,I.tok _,q⟩
  | ref p =>
    cases rx
    have e':(∃ xs,SqL X.K H p xs ∧ k = !xs.isEmpty) ∨ (∃ xs,SqT X.K H p xs ∧ k = !xs.isEmpty) ∨ ∃ kvs,H p = some (.dK kvs) ∧ k = !kvs.isEmpty:=e
    rcases e' with ⟨xs,hx,e'⟩ | ⟨xs,hx,e'⟩ | ⟨kvs,hx,e'⟩
    · subst e'
      obtain ⟨its,r,pl,hz⟩:=I.list hx
      have hlen:=r.length
      exact wpAny_truthy_list pl.isList (by simp only [List.size_toArray]; exact zo73 hs hz hlen) ⟨H,I.tok _,by rw [ik r]; exact q⟩
    · subst e'
      obtain ⟨its,r,pl,hz⟩:=I.tuple hx
      have hlen:=r.length
      exact truthy_tuple pl (by simp only [List.size_toArray]; exact zo73 hs hz hlen) ⟨H,I.tok _,by rw [ik r]; exact q⟩
    · subst e'
      obtain ⟨hz,hS,vs,r,m⟩:kvs.length ≤ sizeLine ∧ (p == sysModules) = false ∧ ∃ vs,KV kvs vs ∧ s.heap.DictOf (bL X.prog X.w) p vs:=I.hok p _ hx
      have hlen:kvs.length = vs.length:=Paired.length r
      exact wpAny_truthy_dict hS m (by exact zo73 hs hz hlen) ⟨H,I.tok _,by rw [mq r]; exact q⟩
  | _=>exact (show False from e).elim
theorem qU (ha:PE X a ta) (he:∀ whole,isTrue a X.env whole = (do let v ← whole; standAt a.pos; holding [v] (truthy v))) :
    PT X a (fun σ H Q=>ta σ H fun x H'=>∃ k,TruV X.K x H' k ∧ Q k H'):=by
  (try refine ⟨?_⟩); intro pins s σ H Q I h
  exact isTrue_plain (thn (ha pins s σ H _ I h) fun v s1 ⟨x,H1,I1,r1,q1⟩=>vD pins s1 σ H1 x v Q I1 r1 q1) (he _)
theorem eB {x:V} {us:List Value} (r:aZ [x] us):∃ u,us = [u] ∧ a7 x u:=by
  cases r with
  | cons r1 r2=>cases r2; exact ⟨_,rfl,r1⟩
theorem lu {x y:V} {us:List Value} (r:aZ [x,y] us):∃ u w',us = [u,w'] ∧ a7 x u ∧ a7 y w':=by
  cases r with
  | cons r1 r2 =>
    cases r2 with
    | cons r3 r4=>cases r4; exact ⟨_,_,rfl,r1,r3⟩
theorem rH:cq X (.builtin "abs") (fun xs H Q=>∃ i,xs = [.int i] ∧ Q (.int (if i < 0 then -i else i)) H):=by
  (try refine ⟨?_⟩); intro pins s σ H xs us Q I r h
  obtain ⟨i,rfl,q⟩:=h
  obtain ⟨u,rfl,t,rfl⟩:=eB r
  exact call_abs_int fun u tk=>⟨.int (if i < 0 then -i else i),H,I.tok _,⟨_,rfl⟩,q⟩
theorem gu (hc:X.calm = true):cq X (.builtin "max") (fun xs H Q=>∃ i j,xs = [.int i,.int j] ∧ Q (.int (if j > i then j else i)) H):=by
  (try refine ⟨?_⟩); intro pins s σ H xs us Q I r h
  obtain ⟨i,j,rfl,q⟩:=h
  obtain ⟨u,w',rfl,⟨t,rfl⟩,⟨t',rfl⟩⟩:=lu r
  refine max_two_ints (I.ok.hd hc) fun h' tk k=>⟨_,H,I.kept k,?_,q⟩
  by_cases hj:j > i
  · rw [if_pos hj,if_pos hj]; exact ⟨_,rfl⟩
  · rw [if_neg hj,if_neg hj]; exact ⟨_,rfl⟩
theorem f9 (hc:X.calm = true):cq X (.builtin "min") (fun xs H Q=>∃ i j,xs = [.int i,.int j] ∧ Q (.int (if j < i then j else i)) H):=by
  (try refine ⟨?_⟩); intro pins s σ H xs us Q I r h
  obtain ⟨i,j,rfl,q⟩:=h
  obtain ⟨u,w',rfl,⟨t,rfl⟩,⟨t',rfl⟩⟩:=lu r
  refine min_two_ints (I.ok.hd hc) fun h' tk k=>⟨_,H,I.kept k,?_,q⟩
  by_cases hj:j < i
  · rw [if_pos hj,if_pos hj]; exact ⟨_,rfl⟩
  · rw [if_neg hj,if_neg hj]; exact ⟨_,rfl⟩
theorem ja:cq X (.type "int") (fun xs H Q=>(∃ i,xs = [.int i] ∧ Q (.int i) H) ∨ ∃ k,xs = [.bl k] ∧ Q (.int (if k then 1 else 0)) H):=by
  (try refine ⟨?_⟩); intro pins s σ H xs us Q I r h
  rcases h with ⟨i,rfl,q⟩ | ⟨k,rfl,q⟩
  · obtain ⟨u,rfl,t,rfl⟩:=eB r
    exact call_int_int ⟨.int i,H,I,⟨_,rfl⟩,q⟩
  · obtain ⟨u,rfl,r1⟩:=eB r
    cases r1
    exact call_int_bool ⟨.int (if k then 1 else 0),H,I.tok _,⟨_,rfl⟩,q⟩
end
structure ObjM (h:Heap) (x dx C:Addr) (mA:Str → Option Value):Prop where
  obj:h.get? x = some (PySem.W.instObj C dx)
  ns:h.Ns1 dx mA
  ne:dx ≠ x
theorem pk {h:Heap} {dx:Addr} {mA:Str → Option Value} (n:h.Ns1 dx mA):∃ od,h.get? dx = some od ∧ ∀ name,PySem.W.lookIn name od = some (mA name):=by
  obtain ⟨o,es,ep,ho,hd,hk,_,hm⟩:=n
  refine ⟨o,ho,fun name=>?_⟩
  have e:=hm name
  unfold nsFind findBy at e
  rw [← Array.find?_toList] at e
  unfold PySem.W.lookIn
  rw [hd]
  dsimp only
  split
  · rename_i y q
    rw [q] at e
    exact congrArg some e
  · rename_i q
    rw [q] at e
    have a:es.toList.any (·.refKey) = false:=by
      rw [List.any_eq_false]
      intro y hy
      obtain ⟨z,t,hkey⟩:=hk y (Array.mem_toList_iff.mp hy)
      simp [DictEntry.refKey,hkey]
    have a' : ¬ es.toList.any (·.refKey) = true:=by rw [a]; exact Bool.false_ne_true
    rw [if_neg a']
    exact congrArg some e
theorem ObjM.look {h:Heap} {x dx C:Addr} {mA:Str → Option Value} (I:ObjM h x dx C mA):∃ od,PySem.W.InstAt h x (PySem.W.instObj C dx) C (some od) ∧ ∀ name,PySem.W.lookIn name od = some (mA name) :=
  let ⟨od,ho,hl⟩:=pk I.ns
  ⟨od,⟨I.obj,rfl,rfl,ho⟩,hl⟩
section
variable {prog:Program} {w:World} {A:Around} {E:Value → Shared → Prop} {s:Shared} {K:PySem.W.Frag} {x dx C f:Addr} {mA:Str → Option Value} {name:Str} {v:Value}
end
theorem gR.some_of {v:V} {o:Option Value} (r:gR (some v) o):∃ u,o = some u ∧ a7 v u:=by
  cases o with
  | none=>exact (show False from r).elim
  | some u=>exact ⟨u,rfl,r⟩
section
variable {P:Program} {w:World} {H H':Hp} {h h':Heap} {a C dx:Addr} {fs fs':List (Str × V)}
theorem sx (hok:HOk P w H h) (e:H a = some (.ins C dx fs)):∃ mA,ObjM h a dx C mA ∧ (∀ f,gR (fs.lookup f) (mA f)) ∧ PySem.Within mA (fs.map (·.1)) ∧ fs.length ≤ 1000 ∧ H dx = some (.own a):=by
  obtain ⟨d,z,ne,ob,mA,n,r,q⟩:=(show bd P w H h a (.ins C dx fs) from hok a _ e)
  exact ⟨mA,⟨ob,n,ne⟩,r,q,z,d⟩
end
structure Cls (K:PySem.W.Frag) (C:Addr):Prop where
  pg:PySem.W.plainGet K C Str.empty = true
  hd:PySem.W.hasDictIn K C = true
  po:PySem.W.plainOver K C = true
  sa:PySem.W.findIn K (.ref C) "__setattr__" = some (some (.builtin "object.__setattr__"))
theorem Cls.get {K:PySem.W.Frag} {C:Addr} (c:Cls K C) (f:Str):PySem.W.plainGet K C f = true:=c.pg
section
variable {X:Cx} {pins:List (Addr × Obj)} {σ:St} {H:Hp} {s:Shared} {a C dx:Addr} {fs:List (Str × V)} {f:Str} {v:V} {A:Around} {E:Value → Shared → Prop}
end
section
variable {X:Cx} {o e value:Expr} {f:Str} {pos pos' tpos:Pos} {ta tv:TE}
end
section
variable {X:Cx} {pins:List (Addr × Obj)} {σ:St} {H:Hp} {s:Shared} {A:Around} {E:Value → Shared → Prop} {Q:Value → Shared → Prop} {c:Value} {b:Bool}
inductive TyOf (K:PySem.W.Frag) (H:Hp):V → Value → Prop where
  | non:TyOf K H .non (.type "NoneType")
  | bl (x:Bool):TyOf K H (.bl x) (.type "bool")
  | int (i:Int):TyOf K H (.int i) (.type "int")
  | str (x:Str):TyOf K H (.str x) (.type "str")
  | flt (x:UInt64):TyOf K H (.flt x) (.type "float")
  | lst {a:Addr} {xs:List V} (e:H a = some (.lst xs)):TyOf K H (.ref a) (.type "list")
  | frz {a:Addr} {o:Obj} {xs:List V} (e:H a = some (.frz o (.lst xs))):TyOf K H (.ref a) (.type "list")
  | tup {a:Addr} {xs:List V} (e:H a = some (.tup xs)):TyOf K H (.ref a) (.type "tuple")
  | dK {a:Addr} {kvs:List (Key × V)} (e:H a = some (.dK kvs)):TyOf K H (.ref a) (.type "dict")
  | dT {a:Addr} {kvs:List (List Key × V)} (e:H a = some (.dT kvs)):TyOf K H (.ref a) (.type "dict")
  | ins {a C dx:Addr} {fs:List (Str × V)} (e:H a = some (.ins C dx fs)) (cl:Cls K C) (ha:PySem.W.findIn K (.ref C) "__class__" = some (some (.builtin "object.__class__")))
      (hn:PySem.W.specialIn K (.builtin "object.__class__") "__get__" = some (some (.builtin "getset_descriptor.__get__"))) (htk:PySem.W.takesIn K (.builtin "object.__class__") = some true)
      (hm:PySem.W.mroIn K C (.type "object") = some true):TyOf K H (.ref a) (.ref C)
theorem oG {x:V} {u t:Value} (I:Inv X pins σ H s) (rx:a7 x u) (ty:TyOf X.K H x t) (e:PySem.W.kitOne X.K t c = some b) (h:∀ tk,Q (.bool b) { s with toks:=tk }) :
    wpAny (model X.prog X.w) A (call (.builtin "isinstance") [u,c]) Q E s:=by
  cases ty with
  | non=>cases (show u = Value.none from rx); exact PySem.W.kia_one PySem.W.kitx_none I.kIn True.intro e (fun z=>nomatch z) h
  | bl y=>cases (show u = Value.bool y from rx); exact PySem.W.kia_one PySem.W.kitx_bool I.kIn True.intro e (fun z=>nomatch z) h
  | int i=>obtain ⟨t,q⟩:=(show ∃ t,u = Value.int i t from rx); cases q; exact PySem.W.kia_one PySem.W.kitx_int I.kIn True.intro e (fun z=>nomatch z) h
  | str y=>obtain ⟨t,q⟩:=(show ∃ t,u = Value.str y t from rx); cases q; exact PySem.W.kia_one PySem.W.kitx_str I.kIn True.intro e (fun z=>nomatch z) h
  | flt y=>obtain ⟨t,q⟩:=(show ∃ t,u = Value.float y t from rx); cases q; exact PySem.W.kia_one PySem.W.kitx_float I.kIn True.intro e (fun z=>nomatch z) h
  | @lst a xs ea =>
    cases (show u = Value.ref a from rx)
    obtain ⟨_,_,n,_,h1⟩:=(show bd X.prog X.w H s.heap a (.lst xs) from I.hok a _ ea)
    exact PySem.W.kia_one PySem.W.kitx_list I.kIn ⟨_,h1,rfl⟩ e (fun z=>nomatch z) h
  | @frz a ob xs ea =>
    cases (show u = Value.ref a from rx)
    obtain ⟨_,_,_,n,_,h1⟩:=(show bd X.prog X.w H s.heap a (.frz ob (.lst xs)) from I.hok a _ ea)
    exact PySem.W.kia_one PySem.W.kitx_list I.kIn ⟨_,h1,rfl⟩ e (fun z=>nomatch z) h
  | @tup a xs ea =>
    cases (show u = Value.ref a from rx)
    obtain ⟨_,_,_,p⟩:=(show bd X.prog X.w H s.heap a (.tup xs) from I.hok a _ ea)
    obtain ⟨o,h1,h2,_⟩:=p
    exact PySem.W.kia_one PySem.W.kitx_tuple I.kIn ⟨o,h1,h2⟩ e (fun z=>nomatch z) h
  | @dK a kvs ea =>
    cases (show u = Value.ref a from rx)
    obtain ⟨_,_,vs,_,p⟩:=(show bd X.prog X.w H s.heap a (.dK kvs) from I.hok a _ ea)
    obtain ⟨o,es,ep,h1,h2,_⟩:=p
    exact PySem.W.kia_one PySem.W.kitx_dict I.kIn ⟨o,h1,h2.1⟩ e (fun z=>nomatch z) h
  | @dT a kvs ea =>
    cases (show u = Value.ref a from rx)
    obtain ⟨_,_,xs,_,o,es,ep,h1,h2,_⟩:=(show bd X.prog X.w H s.heap a (.dT kvs) from I.hok a _ ea)
    exact PySem.W.kia_one PySem.W.kitx_dict I.kIn ⟨o,h1,h2.1⟩ e (fun z=>nomatch z) h
  | @ins a C dx fs ea cl ha hn htk hm =>
    cases (show u = Value.ref a from rx)
    obtain ⟨mA,O,_⟩:=sx I.hok ea
    obtain ⟨od,J,_⟩:=O.look
    exact PySem.W.kia_one (PySem.W.kitx_own (cl.get _) cl.hd ha hn htk hm) I.kIn J e (fun z=>nomatch z) h
end
structure Room (k:Nat) (A:Around):Prop where
  hd:A.handled = none
  dp:A.depth + 3 * k + 5 < recursionLimit
  un:A.units + 16 * k + 200 < cLine
  gd:A.guards = some []
theorem Room.mono {j k:Nat} {A:Around} (r:Room k A) (h:j ≤ k):Room j A:=⟨r.hd,by have:=r.dp; exact zo192 h this,by have:=r.un; exact zo193 h this,r.gd⟩
theorem Room.deeper {k:Nat} {A:Around} (r:Room (k + 1) A) (env:Env):Room k (A.deeper env) :=
  ⟨r.hd,by have:=r.dp; show A.depth + 1 + 3 * k + 5 < _; exact zo211 this,by have:=r.un; show A.units + 3 + 16 * k + 200 < _; exact zo208 this,r.gd⟩
theorem Room.depth {k:Nat} {A:Around} (r:Room k A):A.depth < recursionLimit:=by have:=r.dp; exact zo262 this
theorem Room.units {k:Nat} {A:Around} (r:Room k A):A.units + 64 < cLine:=by have:=r.un; exact zo247 this
def tNil:TA:=fun _ H Q=>Q [] H
def tCons (ta:TE) (tr:TA):TA:=fun σ H Q=>ta σ H fun x H1=>tr σ H1 fun xs H2=>Q (x :: xs) H2
section
variable {X:Cx} {e:Expr} {es:List Expr} {te:TE} {t:TA} {pos:Pos}
theorem cO:PA X [] tNil:=⟨fun _ _ _ _ H Q I h=>Calls.spliced_nil ⟨[],H,I,.nil,h⟩⟩
theorem bK (ha:PE X e te) (hr:PA X es t) (hs:starEach (e :: es) X.env = (false,eval e X.env) :: starEach es X.env:=by rfl):PA X (e :: es) (tCons te t):=by
  (try refine ⟨?_⟩); intro pos pins s σ H Q I h
  rw [hs]
  show wpAny _ _ (spliced ((false,eval e X.env) :: backTo pos (starEach es X.env))) _ _ s
  refine Calls.spliced_cons (thn (ha pins s σ H _ I h) fun u s1 ⟨x,H1,I1,r1,q1⟩=>?_)
  exact thn (hr pos pins s1 σ H1 _ I1 q1) fun us s2 ⟨xs,H2,I2,r2,q2⟩=>⟨x :: xs,H2,I2,.cons r1 r2,q2⟩
def tTup (t:TA):TE:=fun σ H Q=>t σ H fun xs H1=>xs.length ≤ sizeLine ∧ ∀ p,H1 p = none → Q (.ref p) (upd H1 p (.tup xs))
def tLst (t:TA):TE:=fun σ H Q=>t σ H fun xs H1=>xs.length ≤ sizeLine ∧ ∀ p,H1 p = none → Q (.ref p) (upd H1 p (.lst xs))
theorem rR {x1} (h:PA X es t):PE X (.Tuple es x1 pos) (tTup t):=by
  (try refine ⟨?_⟩); intro pins s σ H Q I hq
  refine wpAny_Tuple_spliced (thn (h pos pins s σ H _ I hq) fun us s1 ⟨xs,H1,I1,r,z,q⟩=>⟨by rw [← r.length]; exact z,?_⟩)
  have hf:H1 s1.heap.objs.size = none:=I1.hok.fresh (Nat.le_refl _)
  refine ⟨.ref s1.heap.objs.size,upd H1 s1.heap.objs.size (.tup xs),I1.laid (t':=s1.toks) (fun b u e=>Heap.get?_push_of_some _ e) (Nat.le_refl _) ?_,rfl,q _ hf⟩
  exact ⟨z,us,r,⟨_,Heap.get?_push_size _ rfl,rfl,_,rfl⟩⟩
theorem l8 (h:PA X es t):PE X (.List es pos) (tLst t):=by
  (try refine ⟨?_⟩); intro pins s σ H Q I hq
  refine wpAny_List_spliced (thn (h pos pins s σ H _ I hq) fun us s1 ⟨xs,H1,I1,r,z,q⟩=>⟨by rw [← r.length]; exact z,?_⟩)
  have hf:H1 s1.heap.objs.size = none:=I1.hok.fresh (Nat.le_refl _)
  refine ⟨.ref s1.heap.objs.size,upd H1 s1.heap.objs.size (.lst xs),I1.laid (t':=s1.toks) (fun b u e=>Heap.get?_push_of_some _ e) (Nat.le_refl _) ?_,rfl,q _ hf⟩
  exact ⟨z,us,0,r,Heap.get?_push_size _ rfl⟩
end
abbrev Sp:=List V → Hp → VK → XK → Prop
abbrev CXT:=List Env → Hp → Shared → XK → Value → Shared → Prop
structure Env0 (P:Program) (w:World) (K:PySem.W.Frag) (mg:Str → Option Value) (base:Heap) (A:Around) (outer:List Env) (s:Shared) (H:Hp):Prop where
  frames:A.frames = some outer
  mod:Mod K mg base
  bs:∀ b o,base.get? b = some o → s.heap.get? b = some o ∧ H b = none
  bsz:base.objs.size ≤ s.heap.objs.size
  funs:s.heap.FunFrames base outer
  frf:∀ b ∈ frs outer,H b = none
  hok:HOk P w H s.heap
  bare:AllBare s.gens
def CE (outer:List Env) (P:Program) (w:World) (H:Hp) (s:Shared) (Q:VK) (u:Value) (s':Shared):Prop :=
  ∃ v H',s'.os = s.os ∧ AllBare s'.gens ∧ Un (frs outer) [] H H' s.heap s'.heap ∧ HOk P w H' s'.heap ∧ a7 v u ∧ Q v H'
def CR (CX:CXT) (outer:List Env) (P:Program) (w:World) (H:Hp) (s:Shared) (Q:VK) (E:XK) (r:Result) (s':Shared):Prop :=
  match r with
  | .ok (.ret u)=>CE outer P w H s Q u s'
  | .ok _=>False
  | .error e=>CX outer H s E e s'
structure FnOk (P:Program) (w:World) (K:PySem.W.Frag) (mg:Str → Option Value) (base:Heap) (CX:CXT) (k:Nat) (f:Addr) (fd:FuncData) (ps:List Str) (sp:Sp):Prop where
  len:∀ vs H Q E,sp vs H Q E → vs.length = ps.length
  run:∀ (A:Around) (outer:List Env) (s:Shared) (H:Hp) (args:Args) (us:List Value) (vs:List V) (Q:VK) (E:XK),Room k A → Env0 P w K mg base A outer s H → BindsTo s fd args (ps.zip us) → aZ vs us → sp vs H Q E →
    codeAny (model P w) A (.call (.ref f) args) (CR CX outer P w H s Q E) s
theorem FnOk.imp {P:Program} {w:World} {K:PySem.W.Frag} {mg:Str → Option Value} {base:Heap} {CX:CXT} {k:Nat} {f:Addr} {fd:FuncData} {ps:List Str} {sp sp':Sp} (F:FnOk P w K mg base CX k f fd ps sp)
    (h:∀ vs H Q E,sp' vs H Q E → sp vs H Q E):FnOk P w K mg base CX k f fd ps sp' :=
  ⟨fun vs H Q E q=>F.len vs H Q E (h _ _ _ _ q),fun A outer s H args us vs Q E hr he hb hv hs=>F.run A outer s H args us vs Q E hr he hb hv (h _ _ _ _ hs)⟩
section
variable {X:Cx} {pins:List (Addr × Obj)} {σ:St} {H:Hp} {s s':Shared}
theorem Inv.env0 (I:Inv X pins σ H s):Env0 X.prog X.w X.K X.mg X.base X.A X.stack s H :=
  ⟨I.ok.frames,I.ok.mod,I.bs,Nat.le_trans I.ok.bsz I.sz,I.stack,I.stkFree,I.hok,I.bare⟩
theorem Inv.after {Q:VK} {u:Value} (I:Inv X pins σ H s) (h:CE X.stack X.prog X.w H s Q u s'):EP X pins σ Q u s':=by
  obtain ⟨v,H',os,bare,un,hok,r,q⟩:=h
  obtain ⟨hh,g,d,t,os'⟩:=s'
  obtain rfl:os' = s.os:=os
  exact ⟨v,H',I.call (h':=hh) (g':=g) (d':=d) (t':=t) (ch:=[]) un hok bare (fun b z=>absurd z (by simp)),r,q⟩
end
def tCall (sp:Sp) (dvs:List V) (E:XK) (t:TA):TE:=fun σ H Q=>t σ H fun vs H1=>sp (vs ++ dvs) H1 Q E
def aY (K:PySem.W.Frag) (fd:FuncData) (ps:List Str) (ds:List Value):Prop :=
  ∀ (s:Shared) (us:List Value),K.In s.heap → (us ++ ds).length = ps.length → BindsTo s fd ⟨us,[]⟩ (ps.zip (us ++ ds))
theorem aY.all {K:PySem.W.Frag} {fd:FuncData} {ps:List Str} (h:∀ us:List Value,us.length = ps.length → bindArgs fd ⟨us,[]⟩ = pure (ps.zip us)):aY K fd ps []:=fun s us _ hl=>by
  rw [List.append_nil] at hl ⊢
  exact .of_eq (h us hl)
def lW (CX:CXT) (X:Cx) (E:XK):Prop:=∀ (pins:List (Addr × Obj)) (σ:St) (H:Hp) (s:Shared) (e:Value) (s':Shared),Inv X pins σ H s → CX X.stack H s E e s' → X.xe e s'
section
variable {X:Cx} {CX:CXT} {k:Nat} {f C:Addr} {fd:FuncData} {ps:List Str} {sp:Sp} {dvs:List V} {ds:List Value} {E:XK} {x m:Str} {p pos apos:Pos} {e o:Expr} {es:List Expr} {ta:TE} {t:TA}
theorem xz {pins:List (Addr × Obj)} {σ:St} {H:Hp} {s:Shared} {Q:VK} {us:List Value} {vs:List V} (F:FnOk X.prog X.w X.K X.mg X.base CX k f fd ps sp) (hr:Room k X.A) (hb:aY X.K fd ps ds) (hd:aZ dvs ds) (hx:lW CX X E)
    (I:Inv X pins σ H s) (r:aZ vs us) (h:sp (vs ++ dvs) H Q E):wpAny (model X.prog X.w) X.A (call (.ref f) us) (EP X pins σ Q) X.xe s:=by
  have r2:aZ (vs ++ dvs) (us ++ ds):=r.append hd
  have hl:(us ++ ds).length = ps.length:=by rw [← r2.length]; exact F.len _ _ _ _ h
  refine wpAny_call (codeAny_mono (F.run X.A X.stack s H ⟨us,[]⟩ (us ++ ds) (vs ++ dvs) Q E hr I.env0 (hb s us I.kIn hl) r2 h) fun r s' hq=>?_)
  cases r with
  | error e=>exact hx pins σ H s e s' I hq
  | ok fl =>
    cases fl with
    | ret u=>exact I.after hq
    | next=>exact False.elim hq
    | brk=>exact False.elim hq
    | cont=>exact False.elim hq
theorem nG (F:FnOk X.prog X.w X.K X.mg X.base CX k f fd ps sp) (hr:Room k X.A) (hg:Gl X x) (hm:X.mg x = some (.ref f)) (hk:PySem.W.keepIn X.K (.ref f) = true) (hb:aY X.K fd ps ds) (hd:aZ dvs ds) (hx:lW CX X E)
    (ha:PA X (e :: es) t) (hdb:(x == ("__debug__":Str)) = false:=by decide) (he:starEach (e :: es) X.env = (false,eval e X.env) :: starEach es X.env:=by rfl) (hpl:(backTo pos (starEach es X.env)).any (·.1) = false:=by rfl) :
    PE X (.Call (.Name x p) (e :: es) [] pos) (tCall sp dvs E t):=by
  (try refine ⟨?_⟩); intro pins s σ H Q I h
  refine wpAny_Call_Name_kw (nW I hg hm ?_ hdb)
  refine PySem.W.callWith_K (h₀:=X.base) I.ok.mod.kin hk (thn (ha pos pins s σ H _ I h) fun us s1 ⟨vs,H1,I1,r,q⟩=>⟨I1.kIn,?_⟩) he hpl
  exact xz F hr hb hd hx I1 r q
end
section
variable {X:Cx} {CX:CXT} {k:Nat} {f C:Addr} {fd:FuncData} {ps ks:List Str} {sp:Sp} {E:XK} {x m:Str} {p pos apos kpos:Pos} {e o:Expr} {es:List Expr} {kws:List Keyword} {te ta:TE} {t tk:TA} {nm:Option Str}
variable {g:List Value → List Value → List Value} {gV:List V → List V → List V}
end
structure FnScope (N P:List Str) (sc:Scope):Prop where
  kind:sc.kind = .function
  co:sc.isCoroutine = false
  gen:sc.isGenerator = false
  nd:N.Nodup
  pre:N.take P.length = P
  par:∀ x ∈ P,sc.names.lookup x = some .local ∨ sc.names.lookup x = some .cell
  nofree:∀ y ∈ sc.names,y.2 ≠ .free
theorem iT {kindOf:Str → Option NameKind} {x:Str}:∀ {binds:List (Str × Value)} {m:Str → Option Value},(∀ v,(x,v) ∉ binds) → bindL kindOf binds m x = m x
  | [],_,_=>rfl
  | (n,v) :: r,m,h=>by
    unfold bindL
    rw [iT fun w hw=>h w (List.mem_cons_of_mem _ hw)]
    split
    · have:x ≠ n:=by rintro rfl; exact h v List.mem_cons_self
      simp [this]
    · rfl
theorem jj {kindOf:Str → Option NameKind} {x:Str}:∀ {binds:List (Str × Value)} {m:Str → Option Value},(∀ v,(x,v) ∉ binds) → bindC kindOf binds m x = m x
  | [],_,_=>rfl
  | (n,v) :: r,m,h=>by
    unfold bindC
    rw [jj fun w hw=>h w (List.mem_cons_of_mem _ hw)]
    split
    · rfl
    · have:x ≠ n:=by rintro rfl; exact h v List.mem_cons_self
      simp [this]
theorem jx {kindOf:Str → Option NameKind} {x:Str} {v:Value}:∀ {P:List Str} {vs:List Value} {i:Nat} {m:Str → Option Value},P.Nodup → P[i]? = some x → vs[i]? = some v → kindOf x = some .local →
    bindL kindOf (P.zip vs) m x = some v
  | [],_,_,_,_,h,_,_=>by simp at h
  | _ :: _,[],_,_,_,_,h,_=>by simp at h
  | p :: P,w :: vs,0,m,nd,h1,h2,hk=>by
    simp at h1 h2; subst h1; subst h2
    show bindL kindOf ((p,w) :: P.zip vs) m p = _
    unfold bindL
    rw [iT fun v hv=>(List.nodup_cons.mp nd).1 (List.of_mem_zip hv).1,if_pos hk]
    simp
  | p :: P,w :: vs,i + 1,m,nd,h1,h2,hk=>by
    show bindL kindOf ((p,w) :: P.zip vs) m x = _
    unfold bindL
    exact jx (i:=i) (List.nodup_cons.mp nd).2 (by simpa using h1) (by simpa using h2) hk
theorem i5 {kindOf:Str → Option NameKind} {x:Str} {v:Value}:∀ {P:List Str} {vs:List Value} {i:Nat} {m:Str → Option Value},P.Nodup → P[i]? = some x → vs[i]? = some v → kindOf x ≠ some .local →
    bindC kindOf (P.zip vs) m x = some v
  | [],_,_,_,_,h,_,_=>by simp at h
  | _ :: _,[],_,_,_,_,h,_=>by simp at h
  | p :: P,w :: vs,0,m,nd,h1,h2,hk=>by
    simp at h1 h2; subst h1; subst h2
    show bindC kindOf ((p,w) :: P.zip vs) m p = _
    unfold bindC
    rw [jj fun v hv=>(List.nodup_cons.mp nd).1 (List.of_mem_zip hv).1,if_neg hk]
    simp
  | p :: P,w :: vs,i + 1,m,nd,h1,h2,hk=>by
    show bindC kindOf ((p,w) :: P.zip vs) m x = _
    unfold bindC
    exact i5 (i:=i) (List.nodup_cons.mp nd).2 (by simpa using h1) (by simpa using h2) hk
def eg (N:List Str) (vs:List V):St:=vs.map some ++ List.replicate (N.length - vs.length) none
def mj (CX:CXT) (P:Program) (w:World) (K:PySem.W.Frag) (mg:Str → Option Value) (base:Heap) (N:List Str) (qual:Str) (scope:Scope) (f:Addr) (cd:Value) (A:Around) (outer:List Env) (s:Shared) (H:Hp) (E:XK):Cx where
  prog:=P
  w:=w
  K:=K
  mg:=mg
  base:=base
  A:=A.deeper (envOfC qual scope s.heap.objs.size f cd)
  N:=N
  s₀:=s
  H₀:=H
  env:=envOfC qual scope s.heap.objs.size f cd
  outer:=outer
  stack:=envOfC qual scope s.heap.objs.size f cd :: outer
  ex:=[]
  calm:=true
  fn:=fun _=>true
  pn:=[]
  xe:=fun e s'=>wpAny (model P w) (A.deeper (envOfC qual scope s.heap.objs.size f cd)) (leaving (envOfC qual scope s.heap.objs.size f cd) e) (fun _ s''=>CX outer H s E e s'') (fun e' s''=>CX outer H s E e' s'') s'
theorem lg {sc:Scope} {n:Nat} {x:Str} (h:sc.names.lookup x = some .cell):∃ c,(cellsFrom n sc.names []).lookup x = some c:=by
  have q:=PySem.W.cellsFrom_some sc.names n [] (.inl h)
  exact Option.isSome_iff_exists.mp q
theorem pe {CX:CXT} {P:Program} {w:World} {K:PySem.W.Frag} {mg:Str → Option Value} {base:Heap} {N ps:List Str} {qual:Str} {scope:Scope} {f:Addr} {cd:Value} {A:Around} {outer:List Env} {s s1:Shared} {H:Hp} {E:XK} {us:List Value} {vs:List V}
    (S:FnScope N ps scope) (hd:A.handled = none) (e0:Env0 P w K mg base A outer s H) (hl:vs.length = ps.length) (r:aZ vs us)
    (x:InCallC s s.heap.objs.size (bindL (envOfC qual scope s.heap.objs.size f cd).kindOf (ps.zip us) fun _=>none) (cellsFrom (s.heap.objs.size + 1) scope.names []) (bindC (envOfC qual scope s.heap.objs.size f cd).kindOf (ps.zip us) fun _=>none) s1) :
    Inv (mj CX P w K mg base N qual scope f cd A outer s H E) [] (eg N vs) H s1:=by
  have hpl:ps.length ≤ N.length:=by have:=congrArg List.length S.pre; rw [List.length_take] at this; (first|lia|omega)
  obtain ⟨h1,tk,rfl,hk⟩:=x.done
  have noA:∀ b:Addr,b ∉ (mj CX P w K mg base N qual scope f cd A outer s H E).ex:=fun b z=>absurd (show b ∈ ([]:List Addr) from z) (by simp)
  refine ⟨⟨e0.mod,S.kind,rfl,rfl,Nat.le_refl _,fun y z c h1 h2=>?_,fun y hy=>?_,fun y c _ h=>?_,fun _=>hd,Around.frames_deeper e0.frames,.inr ⟨rfl,rfl⟩,fun b z=>absurd z (noA b),e0.bs,e0.bsz,fun b _ _=>noA b,fun b z=>absurd z (noA b),e0.funs,e0.frf⟩,
    rfl,e0.bare,Un.kept hk,⟨_,x.toInCall.ns,fun i y v h1 h2 h3=>?_⟩,fun y c h=>⟨_,x.cell y c h⟩,e0.hok.fresh (Nat.le_refl _),fun y c h=>?_,fun p hp=>absurd (show p ∈ ([]:List (Addr × Obj)) from hp) (by simp),e0.hok.kept hk,?_⟩
  · exact name_of_addr x.apart (PySem.mem_of_lookup h1) (PySem.mem_of_lookup h2)
  · have hy:scope.names.lookup y = some .cell ∨ scope.names.lookup y = some .free:=hy
    rcases hy with hy | hy
    · exact lg hy
    · exact absurd rfl (S.nofree _ (PySem.mem_of_lookup hy))
  · exact Nat.le_of_lt (x.above y c (PySem.mem_of_lookup h))
  · have hi:i < vs.length:=by
      unfold eg at h2
      by_cases hi:i < vs.length
      · exact hi
      · rw [List.getElem?_append_right (by simpa using hi)] at h2
        rw [List.getElem?_replicate] at h2
        split at h2 <;> cases h2
    have ha:vs[i]? = some v:=by
      unfold eg at h2
      rw [List.getElem?_append_left (by simpa using hi),List.getElem?_map] at h2
      cases e:vs[i]? with
      | none=>rw [e] at h2; cases h2
      | some a=>rw [e] at h2; cases h2; rfl
    obtain ⟨u,hu,rv⟩:=r.get ha
    have hp:ps[i]? = some y:=by
      rw [← S.pre,List.getElem?_take_of_lt (by exact uu hl hi)]; exact h1
    have ndP:ps.Nodup:=by rw [← S.pre]; exact S.nd.sublist (List.take_sublist _ _)
    refine ⟨u,rv,?_⟩
    rcases S.par y (List.mem_of_getElem? hp) with k | k
    · exact .inl ⟨k,jx ndP hp hu k⟩
    · obtain ⟨c,e⟩:=lg (n:=s.heap.objs.size + 1) k
      refine .inr ⟨.inl k,c,e,?_⟩
      have q:=x.cell y c e
      rw [i5 ndP hp hu (by show scope.names.lookup y ≠ _; rw [k]; decide)] at q
      exact q
  · exact e0.hok.fresh (Nat.le_of_lt (x.above y c (PySem.mem_of_lookup h)))
  · unfold eg
    show _ = N.length
    rw [List.length_append,List.length_map,List.length_replicate]
    exact zo140 hl hpl
theorem fn_of {CX:CXT} {P:Program} {w:World} {K:PySem.W.Frag} {mg:Str → Option Value} {base:Heap} {k:Nat} {f:Addr} {name qual:Str} {params:Arguments} {body:List Stmt} {scope:Scope} {dV kV doc pm cdv ct oc:Value} {an od:Option Addr}
    {osl:Array (Option Value)} {N ps:List Str} {sp:Sp} (lk:K.lookup f = some ⟨oc,od,.func (PySem.W.fnOf name qual params body scope dV kV doc pm an cdv ct),osl⟩) (hcd:PySem.W.codeIn K cdv qual = true) (S:FnScope N ps scope)
    (len:∀ vs H Q E,sp vs H Q E → vs.length = ps.length)
    (hbody:∀ (A:Around) (outer:List Env) (s:Shared) (H:Hp) (vs:List V) (Q:VK) (E:XK),Room k (A.deeper (envOfC qual scope s.heap.objs.size f cdv)) → sp vs H Q E →
      ∃ t,PSs (mj CX P w K mg base N qual scope f cdv A outer s H E) body t ∧ t { nx:=fun _ H'=>Q .non H',rt:=Q } (eg N vs) H) :
    FnOk P w K mg base CX (k + 1) f (PySem.W.fnOf name qual params body scope dV kV doc pm an cdv ct) ps sp:=by
  refine ⟨len,fun A outer s H args us vs Q E hr e0 hb r hsp=>?_⟩
  have hl:=len _ _ _ _ hsp
  have KX:K.In s.heap:=e0.mod.kin.keeps fun b o e=>(e0.bs b o e).1
  have lim:s.heap.NoLimit:=e0.mod.nolimit.keeps fun b o e=>(e0.bs b o e).1
  have hkind:∀ y ∈ ps.zip us,scope.names.lookup y.1 = some .local ∨ (scope.names.lookup y.1 = some .cell ∧ ((cellsFrom (s.heap.objs.size + 1) scope.names []).lookup y.1).isSome = true):=fun ⟨n,v⟩ hy=>by
    rcases S.par n (List.of_mem_zip hy).1 with q | q
    · exact .inl q
    · exact .inr ⟨q,PySem.W.cellsFrom_some _ _ _ (.inl q)⟩
  refine codeAny_call_function hr.depth (KX _ _ lk) rfl S.co S.gen rfl (PySem.W.codeRec_of KX hcd) (hb _ _ _ _ ?_)
  refine wpAny_newFunctionEnv_cells S.kind hkind fun env he s1 x=>?_
  subst he
  refine ⟨lim.keeps x.toInCall.keep,codeAny_func ?_⟩
  obtain ⟨t,ht,hq⟩:=hbody A outer s H vs Q E (hr.deeper _) hsp
  have I:Inv (mj CX P w K mg base N qual scope f cdv A outer s H E) [] (eg N vs) H s1:=pe S hr.hd e0 hl r x
  refine wpAny_mono (ht [] s1 (eg N vs) H _ I hq) (fun fl s' hs=>?_) fun e s' hs=>hs
  have fin:∀ {σ':St} {H':Hp} {v:V} {u:Value},Inv (mj CX P w K mg base N qual scope f cdv A outer s H E) [] σ' H' s' → a7 v u → Q v H' → CE outer P w H s Q u s' :=
    fun {σ' H' v u} J rv q=>⟨v,H',J.os,J.bare,J.base,J.hok,rv,q⟩
  cases fl with
  | ret u =>
    obtain ⟨v,σ',H',J,rv,q⟩:=hs
    exact fin J rv q
  | next =>
    obtain ⟨σ',H',J,q⟩:=hs
    exact fin (v:=V.non) (u:=Value.none) J rfl q
  | brk =>
    obtain ⟨_,_,_,q⟩:=hs
    exact False.elim q
  | cont =>
    obtain ⟨_,_,_,q⟩:=hs
    exact False.elim q
section
variable {X:Cx} {x:Str} {p pos:Pos} {e:Expr} {es:List Expr} {t:TA} {id T:String} {r:List V → Hp → VK → Prop}
def tCB (r:List V → Hp → VK → Prop) (t:TA):TE:=fun σ H Q=>t σ H fun vs H1=>r vs H1 Q
theorem fD (hc:cq X (.builtin id) r) (hg:Gl X x) (hm:X.mg x = none) (hv:bootBuiltins x = some (.builtin id)) (ha:PA X (e :: es) t) (hn:x ≠ "__name__":=by decide) (hdb:(x == ("__debug__":Str)) = false:=by decide)
    (he:starEach (e :: es) X.env = (false,eval e X.env) :: starEach es X.env:=by rfl) (hpl:(backTo pos (starEach es X.env)).any (·.1) = false:=by rfl):PE X (.Call (.Name x p) (e :: es) [] pos) (tCB r t):=by
  (try refine ⟨?_⟩); intro pins s σ H Q I h
  refine wpAny_Call_Name_kw (eD I hg hm hv ?_ hn hdb)
  exact PyProof.Rows.callWith_builtin1 (thn (ha pos pins s σ H _ I h) fun us s1 ⟨vs,H1,I1,r1,q1⟩=>hc pins s1 σ H1 vs us Q I1 r1 q1) he hpl
theorem cZ (hc:cq X (.type T) r) (hg:Gl X x) (hm:X.mg x = none) (hv:bootBuiltins x = some (.type T)) (ha:PA X (e :: es) t) (hn:x ≠ "__name__":=by decide) (hdb:(x == ("__debug__":Str)) = false:=by decide)
    (he:starEach (e :: es) X.env = (false,eval e X.env) :: starEach es X.env:=by rfl) (hpl:(backTo pos (starEach es X.env)).any (·.1) = false:=by rfl):PE X (.Call (.Name x p) (e :: es) [] pos) (tCB r t):=by
  (try refine ⟨?_⟩); intro pins s σ H Q I h
  refine wpAny_Call_Name_kw (eD I hg hm hv ?_ hn hdb)
  exact PyProof.Rows.callWith_type1 (thn (ha pos pins s σ H _ I h) fun us s1 ⟨vs,H1,I1,r1,q1⟩=>hc pins s1 σ H1 vs us Q I1 r1 q1) he hpl
end
end L2
namespace HT
open PySem PyProof.Rows
section
open PySem.SeqAt
open PySem.AutoSeq1 (wpAny_loadPart')
open PySem.MeetsSeq PySem.MeetsSeq2 PySem.MeetsSeq3
end
section
variable {prog:Program} {w:World} {A:Around} {E:Value → Shared → Prop} {s:Shared}
def sIx (n d:Nat):Option Int → Nat
  | none=>d
  | some v=>if v < 0 then (v + (n:Int)).toNat else min v.toNat n
theorem sIx_none (n d:Nat):sIx n d none = d:=rfl
theorem sIx_nat (n d k:Nat):sIx n d (some (k:Int)) = min k n:=by
  show (if (k:Int) < 0 then ((k:Int) + (n:Int)).toNat else min (k:Int).toNat n) = min k n
  rw [if_neg (by exact zo376),Int.toNat_natCast]
end
end HT
namespace L2
open PySem PySem.Spec PyProof.Rows
abbrev TO:=St → Hp → (Option Int → Hp → Prop) → Prop
structure PO (X:Cx) (e:Option Expr) (t:TO):Prop where
  go:∀ (pins:List (Addr × Obj)) (s:Shared) (σ:St) (H:Hp) (Q:Option Int → Hp → Prop),Inv X pins σ H s → t σ H Q →
    wpAny (model X.prog X.w) X.A (evalPart e X.env) (fun u s'=>∃ o H',Inv X pins σ H' s' ∧ IsPart u o ∧ Q o H') X.xe s
instance {X:Cx} {e:Option Expr} {t:TO}:CoeFun (PO X e t) fun _=>∀ (pins:List (Addr × Obj)) (s:Shared) (σ:St) (H:Hp) (Q:Option Int → Hp → Prop),Inv X pins σ H s → t σ H Q →
    wpAny (model X.prog X.w) X.A (evalPart e X.env) (fun u s'=>∃ o H',Inv X pins σ H' s' ∧ IsPart u o ∧ Q o H') X.xe s:=⟨fun h=>h.go⟩
def sC:TO:=fun _ H Q=>Q none H
def tPart (t:TE):TO:=fun σ H Q=>t σ H fun x H1=>∃ i,x = .int i ∧ Q (some i) H1
theorem ie {ns:List Int}:∀ {us:List Value},aZ (ns.map V.int) us → IntsAre us ns:=by
  induction ns with
  | nil=>intro us r; rw [List.map_nil] at r; cases r; exact .nil
  | cons n ns ih =>
    intro us r
    rw [List.map_cons] at r
    cases r with
    | cons r1 r2 =>
      obtain ⟨t,e⟩:=r1
      subst e
      exact .cons n t (ih r2)
section
variable {X:Cx} {e:Expr} {te:TE} {lo hi:Option Expr} {tl th:TO} {pos p2:Pos}
theorem tS:PO X none sC:=by
  (try refine ⟨?_⟩); intro pins s σ H Q I h
  rw [evalPart_none]
  exact wpAny_pure ⟨none,H,I,.none,h⟩
theorem sr (h:PE X e te):PO X (some e) (tPart te):=by
  (try refine ⟨?_⟩); intro pins s σ H Q I hw
  rw [evalPart_some]
  refine thn (h pins s σ H _ I hw) fun u s1 ⟨x,H1,I1,r1,q1⟩=>?_
  obtain ⟨i,rfl,q⟩:=q1
  obtain ⟨t,rfl⟩:=r1
  exact ⟨some i,H1,I1,.int i t,q⟩
def SlR (X:Cx) (r:V → Option Int → Option Int → Hp → VK → Prop):Prop :=
  ∀ (pins:List (Addr × Obj)) (s:Shared) (σ:St) (H:Hp) (x:V) (v vl vu:Value) (lo hi:Option Int) (sl:Addr) (Q:VK),Inv X pins σ H s → a7 x v → s.heap.IsSliceOf sl vl vu .none → IsPart vl lo → IsPart vu hi → r x lo hi H Q →
    ∃ T id,typeLookup (.type T) "__getitem__" = pure (some (.builtin id)) ∧ s.TypeIs v T ∧ wpAny (model X.prog X.w) X.A (getItem v (.ref sl)) (EP X pins σ Q) X.xe s
def tSl (r:V → Option Int → Option Int → Hp → VK → Prop) (te:TE) (tl th:TO):TE:=fun σ H Q=>te σ H fun x H1=>tl σ H1 fun l H2=>th σ H2 fun u H3=>r x l u H3 Q
theorem k7 {r:V → Option Int → Option Int → Hp → VK → Prop} (hr:SlR X r) (he:PE X e te) (hl:PO X lo tl) (hu:PO X hi th):PE X (.Subscript e (.Slice lo hi none p2) pos) (tSl r te tl th):=by
  (try refine ⟨?_⟩); intro pins s σ H Q I h
  refine Subscript_ (thn (he pins s σ H _ I h) fun v s1 ⟨x,H1,I1,r1,q1⟩=>?_)
  refine wpAny_Slice (thn (hl pins s1 σ H1 _ I1 q1) fun vl s2 ⟨l,H2,I2,pl,q2⟩=>thn (hu pins s2 σ H2 _ I2 q2) fun vu s3 ⟨u,H3,I3,pu,q3⟩=>?_)
  rw [evalPart_none]
  refine wpAny_pure ?_
  have I4:Inv X pins σ H3 { s3 with heap:=s3.heap.push { cls:=.type "slice",data:=.fields #[vl,vu,.none] } }:=I3.kept (t':=s3.toks) fun b ob q=>Heap.get?_push_of_some _ q
  obtain ⟨T,id,hT,ht,hg⟩:=hr pins { s3 with heap:=s3.heap.push { cls:=.type "slice",data:=.fields #[vl,vu,.none] } } σ H3 x v vl vu l u s3.heap.objs.size Q I4 r1 (Heap.IsSliceOf.new ..) pl pu q3
  show wpAny (model X.prog X.w) X.A (subscriptTail e (.Slice lo hi none p2) v (.ref s3.heap.objs.size)) (EP X pins σ Q) X.xe { s3 with heap:=s3.heap.push { cls:=.type "slice",data:=.fields #[vl,vu,.none] } }
  exact tail_any (ops:=[.ref s3.heap.objs.size,v]) ht hT hg (by with_unfolding_all rfl)
def mX (xs:List V) (lo hi:Option Int):List V:=(xs.drop (HT.sIx xs.length 0 lo)).take (HT.sIx xs.length xs.length hi - HT.sIx xs.length 0 lo)
theorem k9 (xs:List V) (lo hi:Option Int):(mX xs lo hi).length ≤ xs.length:=by
  unfold mX
  rw [List.length_take,List.length_drop]
  (first|lia|omega)
end
def ixN (n:Nat) (i:Int):Option Nat:=if 0 ≤ i then (if i < n then some i.toNat else none) else if -(n:Int) ≤ i then some (i + n).toNat else none
def atI {α:Type} (xs:List α) (i:Int):Option α:=(ixN xs.length i).bind fun j=>xs[j]?
theorem nR {n:Nat} {i:Int} {j:Nat} (h:ixN n i = some j):seqIndex? i n = some j ∧ j < n ∧ -(n:Int) ≤ i ∧ i < n:=by
  unfold ixN at h
  by_cases h0 : 0 ≤ i
  · rw [if_pos h0] at h
    by_cases h1:i < n
    · rw [if_pos h1] at h
      have e:i.toNat = j:=Option.some.inj h
      exact ⟨by rw [seqIndex_of h0 h1,e],by exact zo161 h0 h1 e,by exact zo352 h0,h1⟩
    · rw [if_neg h1] at h; cases h
  · rw [if_neg h0] at h
    by_cases h1 : -(n:Int) ≤ i
    · rw [if_pos h1] at h
      have e:(i + n).toNat = j:=Option.some.inj h
      exact ⟨by rw [seqIndex_neg (by exact rJ h0) h1,e],by exact zo142 h0 h1 e,h1,by exact zo319 h0 h1⟩
    · rw [if_neg h1] at h; cases h
theorem kC {α:Type} {xs:List α} {i:Int} {v : α} (h:atI xs i = some v):∃ j,seqIndex? i xs.length = some j ∧ xs[j]? = some v ∧ j < xs.length ∧ -(xs.length:Int) ≤ i ∧ i < xs.length:=by
  unfold atI at h
  cases e:ixN xs.length i with
  | none=>rw [e] at h; cases h
  | some j =>
    rw [e] at h
    obtain ⟨h1,h2,h3,h4⟩:=nR e
    exact ⟨j,h1,h,h2,h3,h4⟩
theorem eZ {α:Type} {xs:List α} {j:Nat} {v : α} (h:xs[j]? = some v):atI xs (j:Int) = some v:=by
  have hj:j < xs.length:=(List.getElem?_eq_some_iff.mp h).1
  have e:ixN xs.length (j:Int) = some j:=by
    unfold ixN
    rw [if_pos (by exact pY),if_pos (by exact zo96 hj)]; simp
  unfold atI; rw [e]; exact h
theorem qV {α:Type} (xs:List α) (v : α):atI (xs ++ [v]) (-1) = some v:=by
  have hl:(xs ++ [v]).length = xs.length + 1:=by simp
  have e:ixN (xs ++ [v]).length (-1) = some xs.length:=by
    unfold ixN
    rw [hl,if_neg (by decide),if_pos (by exact zo353)]
    congr 1
    exact zo159
  unfold atI
  rw [e]
  show (xs ++ [v])[xs.length]? = some v
  simp
def kG (b:Expr):Prop:=∀ o i,subscripted b false o i = operate [o,i] (getItem o i)
def IxR (X:Cx) (r:R2):Prop :=
  ∀ (value slice:Expr) (pins:List (Addr × Obj)) (s:Shared) (σ:St) (H:Hp) (x y:V) (v u:Value) (Q:VK),Inv X pins σ H s → a7 x v → a7 y u → r x y H Q →
    subscripted slice false v u = operate [v,u] (getItem v u) → wpAny (model X.prog X.w) X.A (subscriptTail value slice v u) (EP X pins σ Q) X.xe s
def MtR (X:Cx) (id:String) (r:V → List V → Hp → VK → Prop):Prop :=
  ∀ (pins:List (Addr × Obj)) (s:Shared) (σ:St) (H:Hp) (x:V) (xs:List V) (v:Value) (us:List Value) (Q:VK),Inv X pins σ H s → a7 x v → aZ xs us → r x xs H Q →
    wpAny (model X.prog X.w) X.A (call (.builtin id) (v :: us)) (EP X pins σ Q) X.xe s
section
variable {X:Cx} {a b:Expr} {ta tb:TE} {pos:Pos}
theorem IxR.or {r r':R2} (h:IxR X r) (h':IxR X r'):IxR X (fun x y H Q=>r x y H Q ∨ r' x y H Q):=by
  intro value slice pins s σ H x y v u Q I rx ry q hs
  rcases q with q | q
  · exact h value slice pins s σ H x y v u Q I rx ry q hs
  · exact h' value slice pins s σ H x y v u Q I rx ry q hs
theorem t3 {r:R2} (hr:IxR X r) (ha:PE X a ta) (hb:PE X b tb) (hs:kG b):PE X (.Subscript a b pos) (tOp r ta tb):=by
  (try refine ⟨?_⟩); intro pins s σ H Q I h
  exact Subscript_ (binT ha hb I h fun v u s2 x y H2 I2 rx ry q=>hr a b pins s2 σ H2 x y v u Q I2 rx ry q (hs _ _))
def rIxL (K:PySem.W.Frag):R2:=fun x y H Q=>∃ p xs i v,x = .ref p ∧ y = .int i ∧ SqL K H p xs ∧ atI xs i = some v ∧ Q v H
def rIxT (K:PySem.W.Frag):R2:=fun x y H Q=>∃ p xs i v,x = .ref p ∧ y = .int i ∧ SqT K H p xs ∧ atI xs i = some v ∧ Q v H
def rIxS:R2:=fun x y H Q=>∃ z i c,x = .str z ∧ y = .int i ∧ z.length ≤ sizeLine ∧ atI z.cps.toList i = some c ∧ Q (.str ⟨#[c]⟩) H
theorem tR:IxR X (rIxL X.K):=by
  intro value slice pins s σ H x y v u Q I rx ry h hs
  obtain ⟨p,xs,i,z,rfl,rfl,hq,he,q⟩:=h
  cases rx
  obtain ⟨t,rfl⟩:=ry
  obtain ⟨its,r,pl,hz⟩:=I.list hq
  obtain ⟨j,h1,h2,h3,h4,h5⟩:=kC he
  obtain ⟨w,ew,rw'⟩:=r.get h2
  have hl:=r.length
  have hn:=f7
  have fin:EP X pins σ Q w s:=⟨z,H,I,rw',q⟩
  by_cases h0 : 0 ≤ i
  · have hj:i.toNat = j:=by
      rw [seqIndex_of h0 h5] at h1
      exact Option.some.inj h1
    exact item_listR pl.isList h0 (by exact zo52 hz h5 hl hn) (by rw [hj]; simpa using ew) fin hs
  · have hj:(i + (its.toArray.size:Int)).toNat = j:=by
      rw [seqIndex_neg (by exact rJ h0) h4] at h1
      rw [List.size_toArray,← hl]
      exact Option.some.inj h1
    exact subscriptTail_builtinR (x:=w) pl.isList.typeIs slot_list_getitem.lookup
      (wpAny_getItem_list_neg (Q:=fun r s'=>r = w ∧ EP X pins σ Q r s') pl.isList (by exact rJ h0) (by rw [List.size_toArray] <;> exact zo265 h4 hl) (by exact zo40 hz h4 hl hn) (by rw [hj]; simpa using ew) ⟨rfl,fin⟩) hs
theorem wQ:IxR X (rIxT X.K):=by
  intro value slice pins s σ H x y v u Q I rx ry h hs
  obtain ⟨p,xs,i,z,rfl,rfl,hq,he,q⟩:=h
  cases rx
  obtain ⟨t,rfl⟩:=ry
  obtain ⟨its,r,pl,hz⟩:=I.tuple hq
  obtain ⟨j,h1,h2,h3,h4,h5⟩:=kC he
  obtain ⟨w,ew,rw'⟩:=r.get h2
  have hl:=r.length
  have hn:=f7
  have fin:EP X pins σ Q w s:=⟨z,H,I,rw',q⟩
  exact subscriptTail_builtinR (x:=w) pl.typeIs slot_tuple_getitem.lookup
    (getItem_tuple (j:=j) (Q:=fun r s'=>r = w ∧ EP X pins σ Q r s') pl (by exact zo124 hz h3 h4 hl hn) (by exact zo133 hz h3 h5 hl hn) (by rw [List.size_toArray,← hl]; exact h1) (by simpa using ew) ⟨rfl,fin⟩) hs
theorem xI:IxR X rIxS:=by
  intro value slice pins s σ H x y v u Q I rx ry h hs
  obtain ⟨z,i,c,rfl,rfl,hz,he,q⟩:=h
  obtain ⟨t,rfl⟩:=rx
  obtain ⟨t',rfl⟩:=ry
  obtain ⟨j,h1,h2,h3,h4,h5⟩:=kC he
  have hl:z.cps.toList.length = z.length:=by simp [Str.length]
  rw [hl] at h1 h4 h5
  have hn:=f7
  exact tail_any (typeIs_str s z t) slot_str_getitem.lookup (getItem_str (c:=c) (by
    have e1:decide (i < -(2 ^ 63:Int)) = false:=decide_eq_false (by exact zo156 hz h4 hl hn)
    have e2:decide (i ≥ 2 ^ 63) = false:=decide_eq_false (by exact zo171 hz h5 hl hn)
    rw [e1,e2,Bool.or_false]) (by rw [h1]; simpa using h2) ⟨.str ⟨#[c]⟩,H,I.tok _,⟨_,rfl⟩,q⟩) hs
def rIx (K:PySem.W.Frag):R2:=fun x y H Q=>rIxL K x y H Q ∨ rIxT K x y H Q ∨ rIxS x y H Q
theorem ak:IxR X (rIx X.K):=tR.or (wQ.or xI)
theorem mN (its:List Value) (n j:Nat) (u:Value):Obj.mapSeq (·.setIfInBounds j u) { cls:=.type "list",data:=.seq its.toArray n } = { cls:=.type "list",data:=.seq (its.set j u).toArray n }:=by
  simp [Obj.mapSeq]
theorem Inv.lst {pins:List (Addr × Obj)} {σ:St} {H:Hp} {s:Shared} {p:Addr} {xs:List V} (I:Inv X pins σ H s) (h:H p = some (.lst xs)) :
    ∃ (its:List Value) (n:Nat),aZ xs its ∧ s.heap.get? p = some { cls:=.type "list",data:=.seq its.toArray n } ∧ xs.length ≤ sizeLine:=by
  obtain ⟨z,its,n,r,e⟩:=I.hok p _ h
  exact ⟨its,n,r,e,z⟩
theorem Inv.lstUpd {pins:List (Addr × Obj)} {σ:St} {H:Hp} {s:Shared} {p:Addr} {xs ys:List V} {its its':List Value} {n n':Nat} {f:Obj → Obj} (I:Inv X pins σ H s) (h:H p = some (.lst xs))
    (ho:s.heap.get? p = some { cls:=.type "list",data:=.seq its.toArray n }) (hf:f { cls:=.type "list",data:=.seq its.toArray n } = { cls:=.type "list",data:=.seq its'.toArray n' }) (r:aZ ys its') (hz:ys.length ≤ sizeLine) (t:Nat) :
    Inv X pins σ (upd H p (.lst ys)) { s with heap:=s.heap.update p f,toks:=t }:=by
  have e:(s.heap.update p f).get? p = some { cls:=.type "list",data:=.seq its'.toArray n' }:=by
    rw [Heap.get?_update_self f ho (by rw [hf] <;> rfl),hf]
  refine I.write (x:=p) (e:=p) (by rw [h]; trivial) (.inl rfl) (fun b u hb q=>(Heap.get?_update_other _ _ (Ne.symm hb)).trans q) ⟨_,e⟩ ?_
  exact ⟨hz,its',n',r,e⟩
def rSetL:V → V → V → Hp → (Hp → Prop) → Prop:=fun o i v H Q=>∃ p xs k j,o = .ref p ∧ i = .int k ∧ H p = some (.lst xs) ∧ ixN xs.length k = some j ∧ Q (upd H p (.lst (xs.set j v)))
theorem p7:PSet X rSetL:=by
  (try refine ⟨?_⟩); intro pins s σ H o i v ov iv u Q I ro ri rv h
  obtain ⟨p,xs,k,j,rfl,rfl,hp,hj,q⟩:=h
  cases ro
  obtain ⟨t,rfl⟩:=ri
  obtain ⟨its,n,r,ho,hz⟩:=I.lst hp
  obtain ⟨h1,h2,h3,h4⟩:=nR hj
  have hl:=r.length
  have hn:=f7
  have I':Inv X pins σ (upd H p (.lst (xs.set j v))) { s with heap:=s.heap.update p (Obj.mapSeq (·.setIfInBounds j u)) } :=
    I.lstUpd hp ho (mN its n j u) (r.set rv j) (by rw [List.length_set]; exact hz) s.toks
  by_cases h0 : 0 ≤ k
  · have hk:k.toNat = j:=by
      rw [seqIndex_of h0 h4] at h1
      exact Option.some.inj h1
    exact PySem.W.ki_setAt ho h0 (by exact zo52 hz h4 hl hn) (by rw [List.size_toArray,← hl]; exact h4) (by rw [hk]; exact ⟨_,I',q⟩)
  · have hk:(k + (its.toArray.size:Int)).toNat = j:=by
      rw [seqIndex_neg (by exact rJ h0) h3] at h1
      rw [List.size_toArray,← hl]
      exact Option.some.inj h1
    exact PySem.W.ki_setBack ho (by exact rJ h0) (by rw [List.size_toArray,← hl]; exact h3) (by exact zo40 hz h3 hl hn) (by rw [hk]; exact ⟨_,I',q⟩)
theorem j9 (lo hi:Option Int) (n:Nat):(sliceBounds lo hi none n).1 = ((HT.sIx n 0 lo:Nat):Int) ∧ (sliceBounds lo hi none n).2.1 = ((HT.sIx n n hi:Nat):Int) ∧ (sliceBounds lo hi none n).2.2 = 1:=by
  refine ⟨?_,?_,rfl⟩
  · cases lo with
    | none=>simp [sliceBounds,HT.sIx]
    | some i =>
      simp only [sliceBounds,HT.sIx,Option.getD_none,show (1:Int) > 0 by decide,if_true]
      by_cases h:i < 0
      · simp only [h,if_true] <;> (first|lia|omega)
      · simp only [h,if_false] <;> (first|lia|omega)
  · cases hi with
    | none=>simp [sliceBounds,HT.sIx]
    | some i =>
      simp only [sliceBounds,HT.sIx,Option.getD_none,show (1:Int) > 0 by decide,if_true]
      by_cases h:i < 0
      · simp only [h,if_true] <;> (first|lia|omega)
      · simp only [h,if_false] <;> (first|lia|omega)
theorem iC (its:List Value) (lo hi:Option Int):slicePick its.toArray lo hi none = ((its.drop (HT.sIx its.length 0 lo)).take (HT.sIx its.length its.length hi - HT.sIx its.length 0 lo)).toArray:=by
  obtain ⟨h1,h2,h3⟩:=j9 lo hi its.toArray.size
  unfold slicePick
  rw [h1,h2,h3]
  simp only [sliceRange_one,pick_run,List.size_toArray] <;> rfl
def rSlL (K:PySem.W.Frag):V → Option Int → Option Int → Hp → VK → Prop:=fun x lo hi H Q=>∃ a xs,x = .ref a ∧ SqL K H a xs ∧ ∀ p,H p = none → Q (.ref p) (upd H p (.lst (mX xs lo hi)))
theorem nu:SlR X (rSlL X.K):=by
  (try refine ⟨?_⟩); intro pins s σ H x v vl vu lo hi sl Q I rx hs pl pu h
  obtain ⟨a,xs,rfl,hx,q⟩:=h
  cases rx
  obtain ⟨its,r,ht,hz⟩:=I.list hx
  have hlen:=r.length
  refine ⟨"list",_,slot_list_getitem.lookup,ht.isList.typeIs,?_⟩
  refine wpAny_getItem_list_slice ht.isList hs pl pu .none (by simp) ?_ (by rw [List.size_toArray] <;> exact kR hz hlen)
  rw [iC,← hlen]
  refine ⟨.ref s.heap.objs.size,_,I.laid (t':=s.toks) (o:=.lst (mX xs lo hi)) (fun b ob q=>Heap.get?_push_of_some _ q) (Nat.le_refl _) ?_,rfl,q _ (I.hok.fresh (Nat.le_refl _))⟩
  exact ⟨Nat.le_trans (k9 xs lo hi) hz,_,0,(r.drop (HT.sIx xs.length 0 lo)).take (HT.sIx xs.length xs.length hi - HT.sIx xs.length 0 lo),Heap.get?_push_size _ rfl⟩
def ff:V → Bool
  | .non=>true
  | .bl _=>true
  | .int _=>true
  | .str _=>true
  | _=>false
def eqV:V → V → Bool
  | .non,.non=>true
  | .bl a,.bl b=>a == b
  | .bl a,.int b=>(if a then 1 else 0) == b
  | .int a,.bl b=>a == (if b then 1 else 0)
  | .int a,.int b=>a == b
  | .str a,.str b=>a == b
  | _,_=>false
theorem vZ {A:Around} {s:Shared} {y x:V} {u v:Value} (ry:a7 y u) (rx:a7 x v) (fy:ff y = true) (fx:ff x = true):SeqAt.EqAt A s u v (eqV y x):=by
  cases y with
  | non =>
    cases ry
    cases x with
    | non=>cases rx; exact SeqAt.EqAt.same _
    | bl b=>cases rx; exact SeqAt.EqAt.none_bool b
    | int b=>obtain ⟨t,rfl⟩:=rx; exact SeqAt.EqAt.none_int b t
    | str b=>obtain ⟨t,rfl⟩:=rx; exact SeqAt.EqAt.none_str b t
    | _=>exact absurd (show false = true from fx) Bool.false_ne_true
  | bl a =>
    cases ry
    cases x with
    | non=>cases rx; exact SeqAt.EqAt.bool_none a
    | bl b=>cases rx; exact SeqAt.EqAt.bool_bool a b
    | int b=>obtain ⟨t,rfl⟩:=rx; exact SeqAt.EqAt.bool_int a b t
    | str b=>obtain ⟨t,rfl⟩:=rx; exact SeqAt.EqAt.bool_str a b t
    | _=>exact absurd (show false = true from fx) Bool.false_ne_true
  | int a =>
    obtain ⟨t',rfl⟩:=ry
    cases x with
    | non=>cases rx; exact SeqAt.EqAt.int_none a t'
    | bl b=>cases rx; exact SeqAt.EqAt.int_bool a t' b
    | int b=>obtain ⟨t,rfl⟩:=rx; exact SeqAt.EqAt.int_int a t' b t
    | str b=>obtain ⟨t,rfl⟩:=rx; exact SeqAt.EqAt.int_str a t' b t
    | _=>exact absurd (show false = true from fx) Bool.false_ne_true
  | str a =>
    obtain ⟨t',rfl⟩:=ry
    cases x with
    | non=>cases rx; exact SeqAt.EqAt.str_none a t'
    | bl b=>cases rx; exact SeqAt.EqAt.str_bool a t' b
    | int b=>obtain ⟨t,rfl⟩:=rx; exact SeqAt.EqAt.str_int a t' b t
    | str b=>obtain ⟨t,rfl⟩:=rx; exact SeqAt.EqAt.str_str a t' b t
    | _=>exact absurd (show false = true from fx) Bool.false_ne_true
  | _=>exact absurd (show false = true from fy) Bool.false_ne_true
def eqU (x:V) (u:Value):Bool:=match u with
  | .none=>eqV .non x
  | .bool b=>eqV (.bl b) x
  | .int i _=>eqV (.int i) x
  | .str z _=>eqV (.str z) x
  | _=>false
theorem rE {x y:V} {u:Value} (r:a7 y u) (f:ff y = true):eqU x u = eqV y x:=by
  cases y with
  | non=>cases r; rfl
  | bl b=>cases r; rfl
  | int i=>obtain ⟨t,rfl⟩:=r; rfl
  | str z=>obtain ⟨t,rfl⟩:=r; rfl
  | _=>exact absurd (show false = true from f) Bool.false_ne_true
theorem fW {x:V}:∀ {xs:List V} {us:List Value},aZ xs us → xs.all ff = true → us.any (eqU x) = xs.any fun y=>eqV y x
  | _,_,.nil,_=>rfl
  | y :: xs,u :: us,.cons r t,f=>by
    rw [List.all_cons,Bool.and_eq_true] at f
    rw [List.any_cons,List.any_cons,rE r f.1,fW t f.2]
theorem eO {A:Around} {s:Shared} {x:V} {v:Value} (rx:a7 x v) (fx:ff x = true):∀ {xs:List V} {us:List Value},aZ xs us → xs.all ff = true → ∀ u ∈ us,SeqAt.EqAt A s u v (eqU x u)
  | _,_,.nil,_=>fun u hu=>by cases hu
  | y :: xs,u :: us,.cons r t,f=>fun u' hu=>by
    rw [List.all_cons,Bool.and_eq_true] at f
    rcases List.mem_cons.mp hu with rfl | hu
    · rw [rE r f.1]; exact vZ r rx f.1 fx
    · exact eO rx fx t f.2 u' hu
def inV (x:V) (xs:List V):Bool:=xs.any fun y=>eqV y x
def rIn (K:PySem.W.Frag) (neg:Bool):R2:=fun x y H Q=>∃ p xs,y = .ref p ∧ (SqL K H p xs ∨ SqT K H p xs) ∧ ff x = true ∧ xs.all ff = true ∧ Q (.bl (if neg then !inV x xs else inV x xs)) H
theorem jg:OpR X (compareOp .In) (rIn X.K false):=by
  (try refine ⟨?_⟩); intro pins s σ H x y v u Q I rx ry h
  obtain ⟨p,xs,rfl,hq,fx,fs,q⟩:=h
  cases ry
  rcases hq with hq | hq
  · obtain ⟨its,r,pl,hz⟩:=I.list hq
    refine SeqAt.in_listAt (eqU x) pl.isList (fun w hw=>eO rx fx r fs w (by simpa using hw)) ⟨.bl _,H,I,rfl,?_⟩
    rw [show its.toArray.any (eqU x) = its.any (eqU x) by simp,fW r fs]
    exact q
  · obtain ⟨its,r,pl,hz⟩:=I.tuple hq
    refine SeqAt.in_tupleAt (eqU x) pl (fun w hw=>eO rx fx r fs w (by simpa using hw)) ⟨.bl _,H,I,rfl,?_⟩
    rw [show its.toArray.any (eqU x) = its.any (eqU x) by simp,fW r fs]
    exact q
theorem fU:OpR X (compareOp .NotIn) (rIn X.K true):=by
  (try refine ⟨?_⟩); intro pins s σ H x y v u Q I rx ry h
  obtain ⟨p,xs,rfl,hq,fx,fs,q⟩:=h
  cases ry
  rcases hq with hq | hq
  · obtain ⟨its,r,pl,hz⟩:=I.list hq
    refine SeqAt.notIn_listAt (eqU x) pl.isList (fun w hw=>eO rx fx r fs w (by simpa using hw)) ⟨.bl _,H,I,rfl,?_⟩
    rw [show its.toArray.any (eqU x) = its.any (eqU x) by simp,fW r fs]
    exact q
  · obtain ⟨its,r,pl,hz⟩:=I.tuple hq
    refine SeqAt.notIn_tupleAt (eqU x) pl (fun w hw=>eO rx fx r fs w (by simpa using hw)) ⟨.bl _,H,I,rfl,?_⟩
    rw [show its.toArray.any (eqU x) = its.any (eqU x) by simp,fW r fs]
    exact q
theorem aq:cq X (.builtin "len") (fun xs H Q=>∃ p ys,xs = [.ref p] ∧ (SqL X.K H p ys ∨ SqT X.K H p ys) ∧ Q (.int ys.length) H):=by
  (try refine ⟨?_⟩); intro pins s σ H xs us Q I r h
  obtain ⟨p,ys,rfl,hq,q⟩:=h
  obtain ⟨u,rfl,rx⟩:=eB r
  cases rx
  have hn:=f7
  rcases hq with hq | hq
  · obtain ⟨its,r',pl,hz⟩:=I.list hq
    have hlen:=r'.length
    exact Calls.call_len_list pl.isList (by simp only [List.size_toArray] <;> exact t4 hn hz hlen) ⟨.int ys.length,H,I.tok _,⟨s.toks + 1,by rw [List.size_toArray,hlen]⟩,q⟩
  · obtain ⟨its,r',pl,hz⟩:=I.tuple hq
    have hlen:=r'.length
    exact len_tuple pl (by simp only [List.size_toArray] <;> exact t4 hn hz hlen) ⟨.int ys.length,H,I.tok _,⟨s.toks + 1,by rw [List.size_toArray,hlen]⟩,q⟩
theorem cr:cq X (.type "list") (fun xs H Q=>∃ p ys,xs = [.ref p] ∧ (SqL X.K H p ys ∨ SqT X.K H p ys) ∧ ∀ l,H l = none → Q (.ref l) (upd H l (.lst ys))):=by
  (try refine ⟨?_⟩); intro pins s σ H xs us Q I r h
  obtain ⟨p,ys,rfl,hq,q⟩:=h
  obtain ⟨u,rfl,rx⟩:=eB r
  cases rx
  have fin:∀ (its:List Value),aZ ys its → ys.length ≤ sizeLine → ∀ (h':Heap) (c':Nat),(∀ b o',s.heap.get? b = some o' → h'.get? b = some o') →
      h'.get? s.heap.objs.size = some { cls:=.type "list",dict:=none,data:=.seq its.toArray c',slots:=#[] } → EP X pins σ Q (.ref s.heap.objs.size) { s with heap:=h' }:=fun its r' hz h' c' kp e =>
    ⟨.ref s.heap.objs.size,_,I.laid (t':=s.toks) kp (Nat.le_refl _) (show bd X.prog X.w _ h' _ (.lst ys) from ⟨hz,its,c',r',e⟩),rfl,q _ (I.hok.fresh (Nat.le_refl _))⟩
  rcases hq with hq | hq
  · obtain ⟨its,r',pl,hz⟩:=I.list hq
    have hlen:=r'.length
    obtain ⟨o,ho,hc,n,hd⟩:=pl.isList
    exact call_list_seq p (.inl rfl) ho hc hd (fun h' c' kp e=>fin its r' hz h' c' kp e) (by simp only [List.size_toArray] <;> exact kR hz hlen)
  · obtain ⟨its,r',pl,hz⟩:=I.tuple hq
    have hlen:=r'.length
    obtain ⟨o,ho,hc,n,hd⟩:=pl
    exact call_list_seq p (.inr rfl) ho hc hd (fun h' c' kp e=>fin its r' hz h' c' kp e) (by simp only [List.size_toArray] <;> exact kR hz hlen)
def tyV (K:PySem.W.Frag) (T:String) (x:V) (H:Hp):Prop:=match x with
  | .str _=>T = "str"
  | .int _=>T = "int"
  | .ref p=>(T = "list" ∧ ∃ xs,SqL K H p xs) ∨ (T = "tuple" ∧ ∃ o,K.lookup p = some o ∧ o.cls = .type "tuple" ∧ o.dict = none) ∨
      (T = "dict" ∧ ((∃ kvs,H p = some (.dK kvs)) ∨ ∃ kvs,H p = some (.dT kvs))) ∨ (T = "set" ∧ ∃ S n,H p = some (.set S n))
  | _=>False
theorem qP {pins:List (Addr × Obj)} {σ:St} {H:Hp} {s:Shared} {T:String} {x:V} {v:Value} (I:Inv X pins σ H s) (r:a7 x v) (ty:tyV X.K T x H) :
    s.TypeIs v T ∧ ∀ a,v = .ref a → ∃ ob,s.heap.get? a = some ob ∧ ob.dict = none:=by
  cases x with
  | str z =>
    obtain ⟨t,rfl⟩:=r
    cases (show T = "str" from ty)
    exact ⟨typeIs_str s z t,fun _ e=>nomatch e⟩
  | int i =>
    obtain ⟨t,rfl⟩:=r
    cases (show T = "int" from ty)
    exact ⟨typeIs_int s i t,fun _ e=>nomatch e⟩
  | ref p =>
    cases r
    rcases ty with ⟨rfl,xs,hq⟩ | ⟨rfl,o,hk,hc,hd⟩ | ⟨rfl,hk⟩ | ⟨rfl,S,n,hk⟩
    · obtain ⟨its,_,pl,_⟩:=I.list hq
      refine ⟨pl.isList.typeIs,fun a e=>?_⟩
      cases e
      obtain ⟨o,n,e,c,hd,_⟩:=pl
      exact ⟨o,e,hd⟩
    · refine ⟨⟨o,I.kIn p o hk,hc⟩,fun a e=>?_⟩
      cases e
      exact ⟨o,I.kIn _ o hk,hd⟩
    · have z:∃ o,s.heap.get? p = some o ∧ o.ExactDict:=by
        rcases hk with ⟨kvs,hk⟩ | ⟨kvs,hk⟩
        · obtain ⟨_,_,_,_,o,_,_,e,ex,_⟩:=I.hok p _ hk
          exact ⟨o,e,ex⟩
        · obtain ⟨_,_,_,_,o,_,_,e,ex,_⟩:=I.hok p _ hk
          exact ⟨o,e,ex⟩
      obtain ⟨o,e,ex⟩:=z
      refine ⟨⟨o,e,ex.1⟩,fun a e2=>?_⟩
      cases e2
      exact ⟨o,e,ex.2.1⟩
    · obtain ⟨o,_,_,_,e,ex,_⟩:=I.hok p _ hk
      refine ⟨⟨o,e,ex.1⟩,fun a e2=>?_⟩
      cases e2
      exact ⟨o,e,ex.2.1⟩
  | _=>exact False.elim ty
def tBM0 (K:PySem.W.Frag) (T:String) (r:V → List V → Hp → VK → Prop) (to:TE):TE:=fun σ H Q=>to σ H fun x H1=>tyV K T x H1 ∧ r x [] H1 Q
def tBM (K:PySem.W.Frag) (T:String) (r:V → List V → Hp → VK → Prop) (to:TE) (t:TA):TE:=fun σ H Q=>to σ H fun x H1=>tyV K T x H1 ∧ t σ H1 fun xs H2=>r x xs H2 Q
variable {o e:Expr} {es:List Expr} {to:TE} {t:TA} {name:Str} {apos cpos:Pos} {T id:String} {r:V → List V → Hp → VK → Prop}
theorem rN (pa:PlainAttrs T) (slot:Slot T name id) (hty:typeOf (.builtin id) = pure (.type "method_descriptor")) (hm:MtR X id r) (ho:PE X o to)
    (hbase:attributeBase o name X.env (eval o X.env) = eval o X.env:=by rfl) (hline:(apos.endLine == cpos.line) = true:=by rfl):PE X (.Call (.Attribute o name apos) [] [] cpos) (tBM0 X.K T r to):=by
  (try refine ⟨?_⟩); intro pins s σ H Q I h
  refine wpAny_Call_method0_late hbase hline (thn (ho pins s σ H _ I h) fun v s1 ⟨x,H1,I1,r1,ty,q1⟩=>?_)
  obtain ⟨h1,h2⟩:=qP I1 r1 ty
  exact ⟨T,id,pa,slot,hty,h1,h2,Calls.callWith_builtin rfl (PySem.evalArgs_none (hm pins s1 σ H1 x [] v [] Q I1 r1 .nil q1))⟩
theorem pP (pa:PlainAttrs T) (slot:Slot T name id) (hty:typeOf (.builtin id) = pure (.type "method_descriptor")) (hm:MtR X id r) (ho:PE X o to) (ha:PA X (e :: es) t)
    (hbase:attributeBase o name X.env (eval o X.env) = eval o X.env:=by rfl)
    (hfew:((backTo cpos (starEach (e :: es) X.env)).all (fun x=>!x.1) && (backToKw cpos (keywordEach [] X.env)).all (fun x=>x.1.isSome)
      && decide ((e :: es).length + ([]:List Keyword).length + (if ([]:List Keyword).isEmpty then 0 else 1) < 30)) = true:=by rfl)
    (hline:(apos.endLine == cpos.line) = true:=by rfl) (hs:starEach (e :: es) X.env = (false,eval e X.env) :: starEach es X.env:=by rfl) (hplain:(backTo cpos (starEach es X.env)).any (·.1) = false:=by rfl) :
    PE X (.Call (.Attribute o name apos) (e :: es) [] cpos) (tBM X.K T r to t):=by
  (try refine ⟨?_⟩); intro pins s σ H Q I h
  refine wpAny_Call_method_late hbase hfew hline rfl (thn (ho pins s σ H _ I h) fun v s1 ⟨x,H1,I1,r1,ty,q1⟩=>?_)
  obtain ⟨h1,h2⟩:=qP I1 r1 ty
  refine ⟨T,id,pa,slot,hty,h1,h2,?_⟩
  have hA:=ha cpos pins s1 σ H1 _ I1 q1
  rw [hs] at hA ⊢
  refine Calls.callWith_builtin (by show (false || (backTo cpos (starEach es X.env)).any (·.1)) = false; rw [hplain] <;> rfl) (Calls.evalArgs_plain ?_)
  exact thn hA fun us s2 ⟨vs,H2,I2,r2,q2⟩=>hm pins s2 σ H2 x vs v us Q I2 r1 r2 q2
/- xs.append(e),list.index on a module's tuple .. are MtR facts of 06m -/
end
def MtM (X:Cx) (id:String) (r:V → List V → Hp → VK → Prop):Prop :=
  ∀ (pins:List (Addr × Obj)) (s:Shared) (σ:St) (H:Hp) (x:V) (xs:List V) (v:Value) (us:List Value) (Q:VK),Inv X pins σ H s → a7 x v → aZ xs us → r x xs H Q →
    wpAny (model X.prog X.w) X.A (call (.builtin id) (v :: us)) (EP X pins σ Q) X.xe s
theorem aZ.one:∀ {x:V} {us:List Value},aZ [x] us → ∃ u,us = [u] ∧ a7 x u:=fun h=>by
  cases h with
  | cons r q=>cases q; exact ⟨_,rfl,r⟩
theorem aZ.zero:∀ {us:List Value},aZ [] us → us = []
  | _,.nil=>rfl
theorem aZ.dropLast {xs:List V} {us:List Value} (h:aZ xs us):aZ xs.dropLast us.dropLast:=by
  induction h with
  | nil=>exact .nil
  | cons r t ih =>
    cases t with
    | nil=>exact .nil
    | cons q t'=>exact .cons r ih
theorem mw {α:Type} (l:List α):l.eraseIdx (l.length - 1) = l.dropLast:=by
  induction l with
  | nil=>rfl
  | cons a r ih =>
    cases r with
    | nil=>rfl
    | cons b r =>
      have e:(a :: b :: r).length - 1 = ((b :: r).length - 1) + 1:=by
        have h1:(a :: b :: r).length = r.length + 2:=rfl
        have h2:(b :: r).length = r.length + 1:=rfl
        exact zo27 h1 h2
      rw [e,List.eraseIdx_cons_succ,ih]
      all_goals rfl
section
variable {X:Cx} {pins:List (Addr × Obj)} {σ:St} {H:Hp} {s:Shared} {l b:Addr} {xs ys zs:List V}
theorem Inv.lset {its its':List Value} {n:Nat} {f:Array Value → Array Value} {t':Nat} (I:Inv X pins σ H s) (hH:H l = some (.lst xs))
    (e:s.heap.get? l = some { cls:=.type "list",data:=.seq its.toArray n }) (hf:f its.toArray = its'.toArray) (hv:aZ ys its') (hz:ys.length ≤ sizeLine) :
    Inv X pins σ (upd H l (.lst ys)) { s with heap:=s.heap.update l (Obj.mapSeq f),toks:=t' }:=by
  have q:=PySem.IsL.update e f
  rw [hf] at q
  refine I.write (x:=l) (e:=l) (by rw [hH]; exact trivial) (.inl rfl) (fun b' u hb hu=>(Heap.get?_update_other s.heap (Obj.mapSeq f) (Ne.symm hb)).trans hu) ⟨_,q⟩ ?_
  exact ⟨hz,its',_,hv,q⟩
theorem Inv.lnew {its:List Value} {t':Nat} (I:Inv X pins σ H s) (hv:aZ ys its) (hz:ys.length ≤ sizeLine) :
    Inv X pins σ (upd H s.heap.objs.size (.lst ys)) { s with heap:=s.heap.push { cls:=.type "list",data:=.seq its.toArray },toks:=t' } :=
  I.laid (fun _ _ q=>Heap.get?_push_of_some _ q) (Nat.le_refl _) ⟨hz,its,0,hv,Heap.get?_push_size _ rfl⟩
theorem Inv.fresh (I:Inv X pins σ H s):H s.heap.objs.size = none:=I.hok.fresh (Nat.le_refl _)
theorem Inv.lstM (I:Inv X pins σ H s) (hH:H l = some (.lst xs)):xs.length ≤ sizeLine ∧ ∃ (its:List Value) (n:Nat),aZ xs its ∧ xs.length = its.length ∧ s.heap.get? l = some { cls:=.type "list",data:=.seq its.toArray n }:=by
  obtain ⟨z,its,n,r,e⟩:=I.hok l _ hH
  exact ⟨z,its,n,r,r.length,e⟩
theorem rF {n:Nat} (h:n ≤ sizeLine):Builtin.List.listTooLong n = false:=by
  unfold Builtin.List.listTooLong
  exact decide_eq_false (by exact zo367 h)
end
section
variable {X:Cx}
def tq:V → List V → Hp → VK → Prop:=fun x vs H Q=>∃ l xs y,x = .ref l ∧ vs = [y] ∧ H l = some (.lst xs) ∧ xs.length < sizeLine ∧ Q .non (upd H l (.lst (xs ++ [y])))
theorem iO:MtM X "list.append" tq:=by
  (try refine ⟨?_⟩); intro pins s σ H x vs v us Q I rx rv h
  obtain ⟨l,xs,y,rfl,rfl,hH,hz,q⟩:=h
  cases rx
  obtain ⟨u,rfl,ru⟩:=rv.one
  obtain ⟨z,its,n,r,hl,e⟩:=I.lstM hH
  refine call_meets F.slot_list_append ⟨_,e,rfl⟩ F.entry_list_append (F.args_list_append_2 _ _) (PySem.list_append l its.toArray n u (by rw [List.size_toArray]; exact zo318 hz hl)) ⟨e,?_⟩
  refine ⟨.non,_,I.lset (its':=its ++ [u]) hH e (by simp) (r.append (.cons ru .nil)) ?_,rfl,q⟩
  rw [List.length_append,List.length_singleton]
  exact zo295 hz hl
def tE:V → List V → Hp → VK → Prop:=fun x vs H Q=>∃ l b xs zs,x = .ref l ∧ vs = [.ref b] ∧ H l = some (.lst xs) ∧ H b = some (.lst zs) ∧ xs.length + zs.length ≤ sizeLine ∧ Q .non (upd H l (.lst (xs ++ zs)))
theorem xO:MtM X "list.extend" tE:=by
  (try refine ⟨?_⟩); intro pins s σ H x vs v us Q I rx rv h
  obtain ⟨l,b,xs,zs,rfl,rfl,hH,hB,hz,q⟩:=h
  cases rx
  obtain ⟨u,rfl,ru⟩:=rv.one
  cases ru
  obtain ⟨z,its,n,r,hl,e⟩:=I.lstM hH
  obtain ⟨z2,its2,n2,r2,hl2,e2⟩:=I.lstM hB
  have hsz:its.toArray.size + its2.toArray.size ≤ sizeLine:=by rw [List.size_toArray,List.size_toArray]; exact zo83 hz hl hl2
  have hlong : ¬ (!its.toArray.isEmpty && Builtin.List.listTooLong (its.toArray.size + its2.toArray.size)) = true:=by
    rw [rF hsz,Bool.and_false]
    exact Bool.false_ne_true
  refine call_meets F.slot_list_extend ⟨_,e,rfl⟩ F.entry_list_extend (F.args_list_extend_2 _ _)
    (AutoSeq1.list_extend_list_list_0 l its.toArray n b its2.toArray n2 hlong (by rw [List.size_toArray]; exact kR z hl) (by exact zo283 hsz)) ⟨e,e2,?_⟩
  refine ⟨.non,_,I.lset (its':=its ++ its2) hH e (by simp) (r.append r2) ?_,rfl,q⟩
  rw [List.length_append]
  exact uR hz
def rPop:V → List V → Hp → VK → Prop:=fun x vs H Q=>∃ l xs y,x = .ref l ∧ vs = [] ∧ H l = some (.lst xs) ∧ xs[xs.length - 1]? = some y ∧ Q y (upd H l (.lst xs.dropLast))
theorem wx:MtM X "list.pop" rPop:=by
  (try refine ⟨?_⟩); intro pins s σ H x vs v us Q I rx rv h
  obtain ⟨l,xs,y,rfl,rfl,hH,hy,q⟩:=h
  cases rx
  have hus:=rv.zero
  subst hus
  obtain ⟨z,its,n,r,hl,e⟩:=I.lstM hH
  obtain ⟨u,hu,ru⟩:=r.get hy
  have hy':its.toArray[its.toArray.size - 1]? = some u:=by
    show its.toArray[its.length - 1]? = some u
    rw [← Array.getElem?_toList,← hl]
    exact hu
  refine call_meets F.slot_list_pop ⟨_,e,rfl⟩ F.entry_list_pop (F.args_list_pop_1 _) (MeetsSeq.list_pop_last l its.toArray n u hy' (by rw [List.size_toArray]; exact kR z hl)) ⟨e,?_⟩
  refine ⟨y,_,I.lset (its':=its.dropLast) hH e ?_ r.dropLast ?_,ru,q⟩
  · show its.toArray.eraseIdxIfInBounds (its.toArray.size - 1) = its.dropLast.toArray
    rw [List.size_toArray,List.eraseIdxIfInBounds_toArray,mw]
  · rw [List.length_dropLast]
    exact zo138 z hl
def xA:V → List V → Hp → VK → Prop:=fun x vs H Q=>∃ l xs,x = .ref l ∧ vs = [] ∧ H l = some (.lst xs) ∧ Q .non (upd H l (.lst []))
theorem rS:MtM X "list.clear" xA:=by
  (try refine ⟨?_⟩); intro pins s σ H x vs v us Q I rx rv h
  obtain ⟨l,xs,rfl,rfl,hH,q⟩:=h
  cases rx
  have hus:=rv.zero
  subst hus
  obtain ⟨z,its,n,r,hl,e⟩:=I.lstM hH
  refine call_meets F.slot_list_clear ⟨_,e,rfl⟩ F.entry_list_clear (F.args_list_clear_1 _) (AutoSeq1.list_clear_list_0 l its.toArray n (by rw [List.size_toArray]; exact kR z hl)) ⟨e,?_⟩
  exact ⟨.non,_,I.lset (its':=[]) (ys:=[]) hH e rfl .nil (Nat.zero_le _),rfl,q⟩
def rCat:R2:=fun x y H Q=>∃ l b xs zs,x = .ref l ∧ y = .ref b ∧ H l = some (.lst xs) ∧ H b = some (.lst zs) ∧ xs.length + zs.length ≤ sizeLine ∧ ∀ p,H p = none → Q (.ref p) (upd H p (.lst (xs ++ zs)))
theorem kq:OpR X (binaryOp .Add) rCat:=by
  (try refine ⟨?_⟩); intro pins s σ H x y v u Q I rx ry h
  obtain ⟨l,b,xs,zs,rfl,rfl,hH,hB,hz,q⟩:=h
  cases rx
  cases ry
  obtain ⟨z,its,n,r,hl,e⟩:=I.lstM hH
  obtain ⟨z2,its2,n2,r2,hl2,e2⟩:=I.lstM hB
  refine PySem.P.add_list e e2 ?_ (by rw [List.size_toArray,List.size_toArray]; exact zo83 hz hl hl2)
  have ea:its.toArray ++ its2.toArray = (its ++ its2).toArray:=by simp
  rw [ea]
  exact ⟨.ref _,_,I.lnew (t':=s.toks) (r.append r2) (by rw [List.length_append]; exact uR hz),rfl,q _ I.fresh⟩
end
section
variable {prog:Program} {w:World} {A:Around} {E:Value → Shared → Prop} {s:Shared}
end
section
variable {X:Cx}
end
end L2
namespace Att
open PySem PySem.W PySem.Calls PyProof.Rows
theorem gD {P:Params} {h:Heap}:∀ (ns:List Int) (vs:List Value),WellAll P h vs (ns.map WData.int) → IntsAre vs ns:=by
  intro ns
  induction ns with
  | nil =>
    intro vs w
    rw [List.map_nil] at w
    cases w
    exact .nil
  | cons n ns ih =>
    intro vs w
    rw [List.map_cons] at w
    cases w with
    | cons a b =>
      cases a
      exact .cons _ _ (ih _ b)
theorem ol {l:OpenLaw} {n:Nat} (hn:l.most = some n) {P:Params} {h:Heap} {args:List WData} {vals:List Value}
    (hpre:l.row.toRowW.claim.pre args = true) (hwl:WellAll P h vals args) :
    ∃ a vs ns,vals = [Value.ref a] ∧ args = [WData.list (ns.map WData.int)] ∧ h.get? a = some { cls:=.type "list",data:=.seq vs.toArray } ∧ IntsAre vs ns ∧ ns.length ≤ n:=by
  have hsh:WShape.hasAll [] args [.list .int] = true:=(pre_splitW hpre).1
  have hc:l.pre.holds [] { args:=args } = true:=(pre_splitW hpre).2
  obtain ⟨d,r,rfl,h1,h2⟩:=hasAllW_cons hsh
  obtain rfl:=hasAllW_nil h2
  obtain ⟨xs,rfl,h3⟩:=hasW_list h1
  obtain ⟨ns,rfl⟩:=items_int h3
  have hlen:ns.length ≤ n:=by
    unfold OpenLaw.pre at hc
    have h4:(WTm.not (.lt (.lit (.int (n:Int))) (.len (.arg 0)))).holds [] { args:=[.list (ns.map .int)] } = true:=by
      have h4:=(holds_andW hc).1
      rw [hn] at h4
      exact h4
    have h5:=condW_of h4 (w_not (w_lt w_lit (w_len_list (w_arg rfl))))
    rw [List.length_map] at h5
    refine Nat.le_of_not_lt fun q=>?_
    have q':(n:Int) < ((ns.length:Nat):Int):=by exact zo96 q
    first
      | (rw [decide_eq_true q'] at h5; exact absurd h5 (by decide))
      | (simp at h5; (first|lia|omega))
  cases hwl with
  | cons w1 w2 =>
    cases w2
    cases w1 with
    | list ho hall=>exact ⟨_,_,ns,rfl,rfl,ho,gD ns _ hall,hlen⟩
theorem oW (l:OpenLaw) (args:List WData):l.row.toRowW.claim.post args (.bool true) args = true :=
  postW_of (r:=l.row.toRowW) (X:=(true == true))
    (show WShape.has [] (.bool true) .bool = true by first | rfl | decide | simp [WShape.has,WShape.arms,WShape.armsAll])
    (show (WTm.eq .res (.lit (.bool true))).value [] { args:=args,res:=some (.bool true),after:=args } = some (.bool (true == true)) from w_eq_bool (w_res rfl) w_lit) rfl
theorem attach_call {l:OpenLaw} {n:Nat} {q:Program} {loose:List Str} {XP:(Str → Option Value) → Heap → Prop} {YP:World → Heap → Prop} {d:DefRec}
    (hn:l.most = some n) (hdf:d.params.defaults = [])
    (call:∀ (w:World) (s₀ s₁:Shared) (mg mb:Str → Option Value) (fa:Addr) (o:Obj) (pm cd doc:Value) (a:Addr) (vs:List Value) (ns:List Int),
      Ground q loose [] XP w s₀ mg mb s₁.heap → YP w s₁.heap →
      s₁.heap.get? fa = some o → o.data = .func (docDef d.name d.params d.body d.scope pm cd doc) → s₁.heap.CodeRec cd d.name → mg d.name = some (.ref fa) →
      s₁.heap.get? a = some { cls:=.type "list",data:=.seq vs.toArray } → IntsAre vs ns → ns.length ≤ n → s₁.gens = #[] →
      codeAny (model l.prog w) callerA (.call (.ref fa) ⟨[.ref a],[]⟩) (fun r s'=>r = .ok (.ret (.bool true)) ∧ OldK s₁.heap s'.heap ∧ s'.os = s₁.os ∧ AllBare s'.gens) s₁) :
    WalkO q loose XP YP l.row.toRowW d [] (fun f vs=>PySem.call f vs):=by
  intro w s₀ s₁ mg mb G Y fa o pm cd doc dV kV ho hd hcd hD hmg hg args vals as hpre hlay hrd hwl hlo
  obtain rfl:dV = .none:=Dflts.none hD hdf
  obtain rfl:kV = .none:=Dflts.noKw hD
  obtain ⟨a,vs,ns,rfl,rfl,hobj,hints,hlen⟩:=ol hn hpre hwl
  refine enter_call (codeAny_mono (call w s₀ s₁ mg mb fa o pm cd doc a vs ns G Y ho (fd_plain hd) hcd hmg hobj hints hlen hg) fun r s' hq=>?_)
  obtain ⟨rfl,h2,h3,h4⟩:=hq
  exact ⟨.inl ⟨.bool true,.bool true,[],rfl,fun _=>rfl,.bool true,oW l _,fun _=>⟨List.Pairwise.nil,fun _ hm=>(nomatch hm)⟩⟩,h2,h3,h4⟩
section
variable {prog:Program} {w:World} {A:Around} {E:Value → Shared → Prop} {s:Shared} {K:Frag}
end
end Att
namespace L2
open PySem PySem.Spec PyProof.Rows
theorem f_:∀ {vs:List Value} {ns:List Int},IntsAre vs ns → aZ (ns.map V.int) vs
  | _,_,.nil=>.nil
  | _,_,.cons n t h=>.cons ⟨t,rfl⟩ (f_ h)
def Only (H:Hp):Prop:=∀ b,H b = none ∨ ∃ o xs,H b = some (.frz o (.lst xs))
theorem qC {P:Program} {w:World} {K:PySem.W.Frag} {mg mb:Str → Option Value} {CX:CXT} {k:Nat} {fa a:Addr} {fd:FuncData} {x:Str} {sp:Sp} {s₁:Shared} {vs:List Value} {ns:List Int}
    (KX:K.In s₁.heap) (hns:s₁.heap.Ns mainGlobals mg) (hb:s₁.heap.Ns builtinsNs mb) (hbb:∀ x:Str,x ≠ "__name__" → mb x = bootBuiltins x) (hlim:s₁.heap.NoLimit) (hg:s₁.gens = #[])
    (ha:s₁.heap.get? a = some { cls:=.type "list",data:=.seq vs.toArray }) (hi:IntsAre vs ns) (hl:ns.length ≤ sizeLine) (hr:Room k callerA)
    (F:∀ base:Heap,K.In base → base.Ns mainGlobals mg → FnOk P w K mg base CX k fa fd [x] sp) (hbind:∀ (s:Shared) (u:Value),BindsTo s fd ⟨[u],[]⟩ [(x,u)])
    (hsp:∀ H:Hp,Only H → SqL K H a (ns.map V.int) → sp [.ref a] H (fun v _=>v = .bl true) fun _ _ _=>False)
    (hCX:∀ H e s',CX [] H s₁ (fun _ _ _=>False) e s' → False) :
    codeAny (model P w) callerA (.call (.ref fa) ⟨[.ref a],[]⟩) (fun r s'=>r = .ok (.ret (.bool true)) ∧ OldK s₁.heap s'.heap ∧ s'.os = s₁.os ∧ AllBare s'.gens) s₁:=by
  have rv:=f_ hi
  have lenV:=hi.length
  -- from an abstract heap in which nothing but the script may be tracked
  have core:∀ H:Hp,Only H → SqL K H a (ns.map V.int) → HOk P w H s₁.heap → (∀ b,H b ≠ none → b = a) → (H a ≠ none → K.lookup a = none) →
      codeAny (model P w) callerA (.call (.ref fa) ⟨[.ref a],[]⟩) (fun r s'=>r = .ok (.ret (.bool true)) ∧ OldK s₁.heap s'.heap ∧ s'.os = s₁.os ∧ AllBare s'.gens) s₁:=by
    intro H hO hS hok hA hK
    have base_of:∀ {b:Addr} {o:Obj},s₁.heap.get? b = some o → H b = none → (kK s₁.heap H).get? b = some o:=fun e n=>rA e n
    have noA:∀ {b:Addr} {o:Obj} {es:Array DictEntry} {ep:Nat},s₁.heap.get? b = some o → o.data = .dict es ep → H b = none:=fun {b o es ep} e d=>by
      cases q:H b with
      | none=>rfl
      | some u =>
        have e':b = a:=hA b (by rw [q]; simp)
        subst e'
        rw [ha] at e; cases e
        have d':Data.seq vs.toArray _ = Data.dict es ep:=d
        cases d'
    have nsK:∀ {b:Addr} {m:Str → Option Value},s₁.heap.Ns b m → (kK s₁.heap H).Ns b m:=fun {b m} ⟨o,es,ep,e,d,r⟩=>⟨o,es,ep,base_of e (noA e d),d,r⟩
    have hKb:K.In (kK s₁.heap H):=fun b o e=>base_of (KX b o e) (by
      cases q:H b with
      | none=>rfl
      | some u =>
        have e':b = a:=hA b (by rw [q]; simp)
        subst e'
        rw [hK (by rw [q]; simp)] at e; cases e)
    have hM:Mod K mg (kK s₁.heap H):=⟨hKb,nsK hns,⟨mb,nsK hb,hbb⟩,let ⟨mc,h1,h2⟩:=hlim; ⟨mc,nsK h1,h2⟩⟩
    have e0:Env0 P w K mg (kK s₁.heap H) callerA [] s₁ H:=⟨rfl,hM,fun b o e=>tG e,Nat.le_of_eq (o5 _ _),trivial,fun b hb=>absurd (show b ∈ ([]:List Addr) from hb) (by simp),hok,.of_eq hg⟩
    refine codeAny_mono ((F _ hKb (nsK hns)).run callerA [] s₁ H ⟨[.ref a],[]⟩ [.ref a] [.ref a] _ _ hr e0 (hbind s₁ (.ref a)) (.cons rfl .nil) (hsp H hO hS)) fun r s' h=>?_
    cases r with
    | error e=>exact (hCX H e s' h).elim
    | ok fl =>
      cases fl with
      | next=>exact False.elim h
      | brk=>exact False.elim h
      | cont=>exact False.elim h
      | ret u =>
        obtain ⟨v,H',os,bare,un,hok',r',q⟩:=h
        have q':v = .bl true:=q
        subst q'
        obtain rfl:u = Value.bool true:=r'
        refine ⟨rfl,OldK.of_keep fun b o e=>?_,os,bare⟩
        cases q:H b with
        | none=>exact un.keep b o e q (by intro z; exact absurd (show b ∈ ([]:List Addr) from z) (by simp)) (by simp)
        | some u =>
          rcases hO b with z | ⟨ob,xs,z⟩
          · rw [q] at z; cases z
          · have z2:=un.frzs b ob _ z
            obtain ⟨e1,_⟩:=hok b _ z
            obtain ⟨e2,_⟩:=hok' b _ z2
            rw [e] at e1; cases e1
            exact e2
  cases hk:K.lookup a with
  | some o =>
    -- the script is one of the module's own objects
    have e:=KX a o hk
    rw [ha] at e
    cases e
    refine core (fun _=>none) (fun _=>.inl rfl) (.inr ⟨_,vs.toArray,_,hk,rfl,rfl,rfl,by rw [List.size_toArray,lenV]; exact hl,by simpa using rv⟩) (fun b u z=>by have z':(none:Option HO) = some u:=z; cases z') (fun b z=>absurd rfl z) fun z=>absurd rfl z
  | none =>
    refine core (fun b=>if b = a then some (.frz { cls:=.type "list",data:=.seq vs.toArray } (.lst (ns.map V.int))) else none) (fun b=>?_) (.inl (.inr ⟨{ cls:=.type "list",data:=.seq vs.toArray },if_pos rfl⟩)) (fun b u z=>?_) (fun b z=>?_) fun _=>hk
    · by_cases hb:b = a
      · exact .inr ⟨_,_,if_pos hb⟩
      · exact .inl (if_neg hb)
    · by_cases hb:b = a
      · have z':=(if_pos hb).symm.trans z
        cases z'
        subst hb
        exact ⟨ha,by rw [List.length_map]; exact hl,vs,_,rv,ha⟩
      · have z':=(if_neg hb).symm.trans z
        cases z'
    · by_cases hb:b = a
      · exact hb
      · exact absurd (if_neg hb) z
theorem sY {l:PySem.W.OpenLaw} {n k:Nat} {q:Program} {loose:List Str} {XP:(Str → Option Value) → Heap → Prop} {YP:World → Heap → Prop} {d:DefRec} {K:Params → PySem.W.Frag} {CX:World → CXT} {sp:World → Sp} {x:Str}
    (hn:l.most = some n) (hn2:n ≤ sizeLine) (hdf:d.params.defaults = []) (hr:Room k callerA)
    (hY:∀ (w:World) (h:Heap),YP w h → (K w.params).In h)
    (F:∀ (w:World) (mg:Str → Option Value) (fa:Addr) (h:Heap),(K w.params).In h → h.Ns mainGlobals mg → mg d.name = some (.ref fa) →
      ∃ fd:FuncData,(∀ (s:Shared) (u:Value),BindsTo s fd ⟨[u],[]⟩ [(x,u)]) ∧
        ∀ base:Heap,(K w.params).In base → base.Ns mainGlobals mg → FnOk l.prog w (K w.params) mg base (CX w) k fa fd [x] (sp w))
    (hsp:∀ (w:World) (H:Hp) (a:Addr) (ns:List Int),ns.length ≤ n → Only H → SqL (K w.params) H a (ns.map V.int) → sp w [.ref a] H (fun v _=>v = .bl true) fun _ _ _=>False)
    (hCX:∀ (w:World) (H:Hp) (s:Shared) (e:Value) (s':Shared),CX w [] H s (fun _ _ _=>False) e s' → False) :
    PySem.W.WalkO q loose XP YP l.row.toRowW d [] (fun f vs=>PySem.call f vs):=by
  refine Att.attach_call hn hdf fun w s₀ s₁ mg mb fa o pm cd doc a vs ns G Y ho hd hcd hmg hobj hints hlen hg=>?_
  have KX:=hY w _ Y
  obtain ⟨fd,hb,hF⟩:=F w mg fa _ KX G.T.g hmg
  exact qC KX G.T.g G.T.b G.T.builtins G.T.nolimit hg hobj hints (Nat.le_trans hlen hn2) hr hF hb (fun H hO hS=>hsp w H a ns hlen hO hS) fun H e s'=>hCX w H s₁ e s'
end L2
/- THE LAST THEOREM (shape; LID,My.* are yours):
   My.Adr: a structure of the addresses that your layer names (classes,functions); My.Txt K t: a structure (Prop) of the equations over K;
   My.txt_mk : {K} {implicit addresses ..} (e1:nsIn K mainGlobals "law" = some (some (.ref f))) (e2:K.lookup f = some ⟨oc,od,.func (fnOf "law" "law" params body scope dV kV doc pm an cdv ct),sl⟩) (e3:codeIn K cdv "law" = true) ..:∃ t,My.Txt K t
(the tactic k_is has no namespace: write k_is) -/
namespace L2
open PySem PySem.Spec PyProof.Rows
def aD (s:Stmt):Arguments:=match s with
  | .FunctionDef _ a _ _ _ _ _ _ _ _=>a
  | _=>{ posonlyargs:=[],args:=[],vararg:=none,kwonlyargs:=[],kw_defaults:=[],kwarg:=none,defaults:=[] }
def aB (s:Stmt):List Stmt:=match s with
  | .FunctionDef _ _ b _ _ _ _ _ _ _=>b
  | _=>[]
def af (s:Stmt):Scope:=match s with
  | .FunctionDef _ _ _ _ _ _ sc _ _ _=>sc
  | _=>{ kind:=.function,names:=[],isGenerator:=false,isCoroutine:=false }
abbrev CX0:CXT:=fun _ _ _ _ _ _=>False
abbrev E0:XK:=fun _ _ _=>False
theorem u4 {X:Cx}:lW CX0 X E0:=fun _ _ _ _ _ _ _ h=>h.elim
structure Fun (K:PySem.W.Frag) (x qual:Str) (st:Stmt) (f:Addr) (fd:FuncData):Prop where
  ex:∃ (oc:Value) (od:Option Addr) (kV doc pm:Value) (an:Option Addr) (cdv ct:Value) (osl:Array (Option Value)),
    fd = PySem.W.fnOf x qual (aD st) (aB st) (af st) .none kV doc pm an cdv ct ∧ K.lookup f = some ⟨oc,od,.func fd,osl⟩ ∧ PySem.W.codeIn K cdv qual = true
  kp:PySem.W.keepIn K (.ref f) = true
section
variable {P:Program} {w:World} {K:PySem.W.Frag} {mg:Str → Option Value} {base:Heap}
theorem Fun.ok {x qual:Str} {st:Stmt} {f:Addr} {fd:FuncData} {N ps:List Str} {k:Nat} {sp:Sp} (F:Fun K x qual st f fd) (S:FnScope N ps (af st)) (len:∀ vs H Q E,sp vs H Q E → vs.length = ps.length)
    (hbody:∀ (cdv:Value) (A:Around) (outer:List Env) (s:Shared) (H:Hp) (vs:List V) (Q:VK) (E:XK),Room k (A.deeper (envOfC qual (af st) s.heap.objs.size f cdv)) → sp vs H Q E →
      ∃ t,PSs (mj CX0 P w K mg base N qual (af st) f cdv A outer s H E).nox (aB st) t ∧ t { nx:=fun _ H'=>Q .non H',rt:=Q } (eg N vs) H):FnOk P w K mg base CX0 (k + 1) f fd ps sp:=by
  obtain ⟨oc,od,kV,doc,pm,an,cdv,ct,osl,rfl,lk,hcd⟩:=F.ex
  refine fn_of lk hcd S len fun A outer s H vs Q E hr hsp=>?_
  obtain ⟨t,h,q⟩:=hbody cdv A outer s H vs Q E hr hsp
  exact ⟨t,h.nox,q⟩
theorem Fun.binds {x qual:Str} {st:Stmt} {f:Addr} {fd:FuncData} {ps:List Str} (F:Fun K x qual st f fd)
    (h:∀ (kV doc pm:Value) (an:Option Addr) (cdv ct:Value) (us:List Value),us.length = ps.length → bindArgs (PySem.W.fnOf x qual (aD st) (aB st) (af st) .none kV doc pm an cdv ct) ⟨us,[]⟩ = pure (ps.zip us)):aY K fd ps []:=by
  obtain ⟨oc,od,kV,doc,pm,an,cdv,ct,osl,rfl,lk,hcd⟩:=F.ex
  exact .all (h kV doc pm an cdv ct)
theorem aT {x qual:Str} {st:Stmt} {f:Addr} {oc:Value} {od an:Option Addr} {osl:Array (Option Value)} {kV doc pm cdv ct:Value} (l:K.lookup f = some ⟨oc,od,.func (PySem.W.fnOf x qual (aD st) (aB st) (af st) .none kV doc pm an cdv ct),osl⟩)
    (c:PySem.W.codeIn K cdv qual = true) (k:PySem.W.keepIn K (.ref f) = true):Fun K x qual st f (PySem.W.fnOf x qual (aD st) (aB st) (af st) .none kV doc pm an cdv ct):=⟨⟨oc,od,kV,doc,pm,an,cdv,ct,osl,rfl,l,c⟩,k⟩
end
theorem cH {A:Around} {k:Nat} (hr:Room k A):A.units + 1 < cLine:=Nat.lt_of_le_of_lt (Nat.add_le_add_left (by decide : 1 ≤ 64) _) hr.units
theorem bY {n:Nat} (h:n ≤ 1000):n < sizeLine:=Nat.lt_of_le_of_lt h (by decide)
section
variable {X:Cx}
end
theorem bQ {c A B:Prop} [Decidable c] (h1:c → A) (h2 : ¬ c → B):if c then A else B:=by
  by_cases h:c
  · rw [if_pos h]
    exact h1 h
  · rw [if_neg h]
    exact h2 h
def aJ (H H':Hp):Prop:=∀ b o,H b = some o → H' b = some o
theorem aJ.refl (H:Hp):aJ H H:=fun _ _ h=>h
theorem aJ.trans {H H1 H2:Hp} (a:aJ H H1) (b:aJ H1 H2):aJ H H2:=fun c o h=>b c o (a c o h)
inductive D where
  | non | bl (b:Bool) | int (i:Int) | str (x:Str) | tup (ds:List D) | lst (ds:List D) | dct | dic (ks:List Key) (ds:List D) | scr (φ:Addr → Prop) (ns:List Int) | ext (φ:Hp → Addr → Prop)
mutual
def Rep (H:Hp):D → V → Prop
  | .non,v=>v = .non
  | .bl b,v=>v = .bl b
  | .int i,v=>v = .int i
  | .str x,v=>v = .str x
  | .tup ds,v=>∃ a xs,v = .ref a ∧ H a = some (.tup xs) ∧ Reps H ds xs
  | .lst ds,v=>∃ a xs,v = .ref a ∧ H a = some (.lst xs) ∧ Reps H ds xs
  | .dct,v=>∃ a kvs,v = .ref a ∧ H a = some (.dK kvs)
  | .dic ks ds,v=>∃ a xs,v = .ref a ∧ H a = some (.dK (ks.zip xs)) ∧ ks.length = ds.length ∧ Reps H ds xs
  | .scr φ ns,v=>∃ a,v = .ref a ∧ ((∃ o,H a = some (.frz o (.lst (ns.map V.int)))) ∨ φ a)
  | .ext φ,v=>∃ a H0,v = .ref a ∧ aJ H0 H ∧ φ H0 a
def Reps (H:Hp):List D → List V → Prop
  | [],xs=>xs = []
  | d :: ds,xs=>∃ v vs,xs = v :: vs ∧ Rep H d v ∧ Reps H ds vs
end
theorem Reps.length {H:Hp}:∀ {ds:List D} {xs:List V},Reps H ds xs → xs.length = ds.length
  | [],xs,h=>by rw [Reps] at h; subst h; rfl
  | d :: ds,xs,h=>by
    rw [Reps] at h
    obtain ⟨v,vs,rfl,_,h2⟩:=h
    have:=Reps.length h2
    simp [this]
mutual
theorem Rep.mono {H H':Hp} (e:aJ H H'):∀ (d:D) (v:V),Rep H d v → Rep H' d v
  | .non,v,h=>by rw [Rep] at *; exact h
  | .bl b,v,h=>by rw [Rep] at *; exact h
  | .int i,v,h=>by rw [Rep] at *; exact h
  | .str x,v,h=>by rw [Rep] at *; exact h
  | .tup ds,v,h=>by
    rw [Rep] at *
    obtain ⟨a,xs,h1,h2,h3⟩:=h
    exact ⟨a,xs,h1,e _ _ h2,Reps.mono e ds xs h3⟩
  | .lst ds,v,h=>by
    rw [Rep] at *
    obtain ⟨a,xs,h1,h2,h3⟩:=h
    exact ⟨a,xs,h1,e _ _ h2,Reps.mono e ds xs h3⟩
  | .dct,v,h=>by
    rw [Rep] at *
    obtain ⟨a,kvs,h1,h2⟩:=h
    exact ⟨a,kvs,h1,e _ _ h2⟩
  | .dic ks ds,v,h=>by
    rw [Rep] at *
    obtain ⟨a,xs,h1,h2,h3,h4⟩:=h
    exact ⟨a,xs,h1,e _ _ h2,h3,Reps.mono e ds xs h4⟩
  | .scr φ ns,v,h=>by
    rw [Rep] at *
    obtain ⟨a,h1,h2⟩:=h
    refine ⟨a,h1,?_⟩
    rcases h2 with ⟨o,h2⟩ | h2
    · exact .inl ⟨o,e _ _ h2⟩
    · exact .inr h2
  | .ext φ,v,h=>by
    rw [Rep] at *
    obtain ⟨a,H0,h1,h2,h3⟩:=h
    exact ⟨a,H0,h1,fun b o q=>e _ _ (h2 b o q),h3⟩
theorem Reps.mono {H H':Hp} (e:aJ H H'):∀ (ds:List D) (xs:List V),Reps H ds xs → Reps H' ds xs
  | [],xs,h=>by rw [Reps] at *; exact h
  | d :: ds,xs,h=>by
    rw [Reps] at *
    obtain ⟨v,vs,h1,h2,h3⟩:=h
    exact ⟨v,vs,h1,Rep.mono e d v h2,Reps.mono e ds vs h3⟩
end
def D.ty:D → String
  | .non => "NoneType" | .bl _ => "bool" | .int _ => "int" | .str _ => "str" | .tup _ => "tuple" | .lst _ => "list" | .dct => "dict" | .dic _ _ => "dict" | .scr _ _ => "list" | .ext _ => "object"
def D.isS:D → Bool
  | .scr _ _=>true
  | .ext _=>true
  | _=>false
theorem Rep.ty {K:PySem.W.Frag} {H:Hp} {d:D} {v:V} (h:Rep H d v) (hs:d.isS = false):TyOf K H v (.type d.ty):=by
  cases d with
  | non=>rw [Rep] at h; subst h; exact .non
  | bl b=>rw [Rep] at h; subst h; exact .bl b
  | int i=>rw [Rep] at h; subst h; exact .int i
  | str x=>rw [Rep] at h; subst h; exact .str x
  | tup ds=>rw [Rep] at h; obtain ⟨a,xs,rfl,h2,_⟩:=h; exact .tup h2
  | lst ds=>rw [Rep] at h; obtain ⟨a,xs,rfl,h2,_⟩:=h; exact .lst h2
  | dct=>rw [Rep] at h; obtain ⟨a,kvs,rfl,h2⟩:=h; exact .dK h2
  | dic ks ds=>rw [Rep] at h; obtain ⟨a,xs,rfl,h2,_⟩:=h; exact .dK h2
  | scr φ ns=>cases hs
  | ext φ=>cases hs
theorem fG {H:Hp}:∀ {ds:List D} {xs:List V} {r:Nat},Reps H ds xs → r < ds.length → ∃ v d,xs[r]? = some v ∧ ds[r]? = some d ∧ Rep H d v
  | [],_,_,_,h=>absurd h (Nat.not_lt_zero _)
  | d :: ds,xs,0,h,_=>by obtain ⟨v,vs,rfl,h1,_⟩:=h; exact ⟨v,d,rfl,rfl,h1⟩
  | d :: ds,xs,r + 1,h,hl=>by
    obtain ⟨v,vs,rfl,_,h2⟩:=h
    obtain ⟨v',d',e1,e2,e3⟩:=fG (r:=r) h2 (by simpa using hl)
    exact ⟨v',d',by simpa using e1,by simpa using e2,e3⟩
theorem jQ {H:Hp} {a:Addr} {xs:List V} {ds:List D} (h:H a = some (.tup xs)) (r:Reps H ds xs):Rep H (.tup ds) (.ref a):=by rw [Rep]; exact ⟨a,xs,rfl,h,r⟩
theorem gH {H:Hp} {a:Addr} {xs:List V} {ds:List D} (h:H a = some (.lst xs)) (r:Reps H ds xs):Rep H (.lst ds) (.ref a):=by rw [Rep]; exact ⟨a,xs,rfl,h,r⟩
theorem bN {H:Hp}:Reps H [] []:=by rw [Reps]
theorem bA {H:Hp} {d:D} {v:V} {ds:List D} {vs:List V} (h:Rep H d v) (r:Reps H ds vs):Reps H (d :: ds) (v :: vs):=by rw [Reps]; exact ⟨v,vs,rfl,h,r⟩
theorem bq {H:Hp} (i:Int):Rep H (.int i) (.int i):=by rw [Rep]
theorem bS {H:Hp} (i:Bool):Rep H (.bl i) (.bl i):=by rw [Rep]
theorem nU {H:Hp} (i:Str):Rep H (.str i) (.str i):=by rw [Rep]
theorem nT {H:Hp}:Rep H .non .non:=by rw [Rep]
theorem rd {H:Hp} {p:Addr} (h:H p = none) (o:HO):aJ H (upd H p o):=fun b u q=>by rw [am (au q h)]; exact q
section
variable {X:Cx}
def oz (d:D) (T:String):Option Bool:=if d.isS = true then none else if (Value.type d.ty == Value.type T) = true then some true else if PySem.W.kitMeta T = true then (fastBuiltinMro d.ty).map (·.contains (.type T)) else none
theorem rn (K:PySem.W.Frag) (d:D) (T:String) (hs:d.isS = false):PySem.W.kitOne K (.type d.ty) (.type T) = oz d T:=by
  unfold oz; rw [hs,if_neg (by decide)]; rfl
def rIsI:List V → Hp → VK → Prop:=fun xs H Q=>∃ x T d b,xs = [x,.ty T] ∧ Rep H d x ∧ oz d T = some b ∧ Q (.bl b) H
theorem lE:cq X (.builtin "isinstance") rIsI:=by
  intro pins s σ H xs us Q I r h
  obtain ⟨x,T,d,b,rfl,hd,e,q⟩:=h
  obtain ⟨u,w',rfl,ru,rw'⟩:=lu r
  cases (show w' = Value.type T from rw')
  have hs:d.isS = false:=by
    cases z:d.isS with
    | false=>rfl
    | true=>unfold oz at e; rw [z,if_pos rfl] at e; cases e
  rw [← rn X.K d T hs] at e
  exact oG I ru (hd.ty hs) e fun tk=>⟨.bl b,H,I.tok tk,rfl,q⟩
def Sm (i:Int):Prop:=i.natAbs < 2 ^ 8000
theorem Sm.log {i:Int} (h:Sm i):i.natAbs.log2 < 8000:=by
  by_cases h0:i.natAbs = 0
  · rw [h0]; decide
  · exact (Nat.log2_lt h0).mpr h
def CDivB (i j:Int):Prop:=0 < j ∧ Sm j
theorem rk:OpR X (binaryOp .FloorDiv) (rI CDivB fun i j=>.int (i / j)):=opI fun i j _ _ _ _ _ hc q=>by
  refine floordiv_int (Int.ne_of_gt hc.1) ?_ (.inl (PyProof.noPylong_of_log2 (Nat.lt_of_lt_of_le hc.2.log (by decide))))
  rw [Int.fdiv_eq_ediv_of_nonneg _ (Int.le_of_lt hc.1)]
  exact q
end
theorem a9:bootBuiltins "len" = some (.builtin "len"):=by decide +kernel
theorem v_:bootBuiltins "abs" = some (.builtin "abs"):=by decide +kernel
theorem mJ:bootBuiltins "max" = some (.builtin "max"):=by decide +kernel
theorem mQ:bootBuiltins "min" = some (.builtin "min"):=by decide +kernel
theorem aX:bootBuiltins "isinstance" = some (.builtin "isinstance"):=by decide +kernel
theorem jH:bootBuiltins "sorted" = some (.builtin "sorted"):=by decide +kernel
theorem qY:bootBuiltins "range" = some (.type "range"):=by decide +kernel
theorem jT:bootBuiltins "int" = some (.type "int"):=by decide +kernel
theorem nk:bootBuiltins "bool" = some (.type "bool"):=by decide +kernel
theorem fP:bootBuiltins "tuple" = some (.type "tuple"):=by decide +kernel
theorem cp:bootBuiltins "list" = some (.type "list"):=by decide +kernel
theorem kF:bootBuiltins "enumerate" = some (.type "enumerate"):=by decide +kernel
theorem wp:bootBuiltins "zip" = some (.type "zip"):=by decide +kernel
section
variable {X:Cx} {pins:List (Addr × Obj)} {σ:St} {H:Hp} {s:Shared} {pos:Pos}
theorem Inv.big (I:Inv X pins σ H s):sysModules < s.heap.objs.size:=by
  obtain ⟨o,es,ep,e,_⟩:=I.ok.mod.glob
  have h1:=Heap.lt_size (I.bk _ _ e)
  exact Nat.lt_of_le_of_lt (by decide) h1
theorem pR {P:Program} {w:World} {H:Hp} (h:Heap) (hb:sysModules < h.objs.size):bd P w H (h.push { cls:=.type "dict",data:=.dict #[] }) h.objs.size (.dK []) :=
  ⟨Nat.zero_le _,beq_eq_false_iff_ne.mpr (Ne.symm (Nat.ne_of_lt hb)),[],.nil,Heap.DictOf.new h⟩
def xN:TE:=fun _ H Q=>∀ p,H p = none → Q (.ref p) (upd H p (.dK []))
theorem pF:PE X (.Dict [] [] pos) xN:=⟨fun pins s σ H Q I h =>
  wpAny_Dict_empty ⟨.ref s.heap.objs.size,_,I.laid (a:=s.heap.objs.size) (o:=.dK []) (t':=s.toks) (fun _ _ q=>Heap.get?_push_of_some _ q) (Nat.le_refl _) (pR s.heap I.big),rfl,h _ (I.hok.fresh (Nat.le_refl _))⟩⟩
end
end L2
namespace L2
open PySem
theorem cJ {i:Int} {n:Nat} (h:i.natAbs ≤ n) (hn:n < 2 ^ 8000):Sm i:=Nat.lt_of_le_of_lt h hn
end L2
namespace L2
open PySem PySem.Spec PyProof.Rows
def CL (env:Env):List (Str × Addr) → Prop
  | []=>True
  | p :: r=>env.cells.lookup p.1 = some p.2 ∧ CL env r
theorem CL.get {env:Env}:∀ {cl:List (Str × Addr)},CL env cl → ∀ {x:Str} {c:Addr},cl.lookup x = some c → env.cells.lookup x = some c
  | [],_,x,c,h=>by simp at h
  | (y,d) :: r,h,x,c,e=>by
    rw [List.lookup_cons] at e
    cases hx:x == y with
    | true =>
      rw [hx] at e
      have e1:x = y:=by simpa using hx
      have e2:d = c:=Option.some.inj e
      subst e1 e2
      exact h.1
    | false =>
      rw [hx] at e
      exact CL.get h.2 e
theorem eh {env:Env}:∀ {names:List (Str × NameKind)} {x:Str} {k:NameKind},
    (names.map fun (n,k)=>if (k == NameKind.free && env.scope.kind == .function && env.kindOf n == some .cell) then (n,NameKind.cell) else (n,k)).lookup x = some k →
    ∃ k',names.lookup x = some k' ∧ (k' = k ∨ (k' = .free ∧ k = .cell))
  | [],x,k,h=>by simp at h
  | (n,kn) :: r,x,k,h=>by
    have ih:=@eh env r x k
    by_cases hc:(kn == NameKind.free && env.scope.kind == .function && env.kindOf n == some .cell) = true
    · have h':List.lookup x ((n,NameKind.cell) :: (r.map fun (n,k)=>if (k == NameKind.free && env.scope.kind == .function && env.kindOf n == some .cell) then (n,NameKind.cell) else (n,k))) = some k:=by
        rw [List.map_cons] at h
        simp only [hc,if_true] at h
        exact h
      rw [List.lookup_cons] at h' ⊢
      cases hx:x == n with
      | true =>
        rw [hx] at h'
        have:kn = .free:=by
          simp only [Bool.and_eq_true,beq_iff_eq] at hc
          exact hc.1.1
        exact ⟨kn,rfl,.inr ⟨this,(Option.some.inj h').symm⟩⟩
      | false=>rw [hx] at h'; exact ih h'
    · have h':List.lookup x ((n,kn) :: (r.map fun (n,k)=>if (k == NameKind.free && env.scope.kind == .function && env.kindOf n == some .cell) then (n,NameKind.cell) else (n,k))) = some k:=by
        rw [List.map_cons] at h
        simp only [hc] at h
        exact h
      rw [List.lookup_cons] at h' ⊢
      cases hx:x == n with
      | true=>rw [hx] at h'; exact ⟨kn,rfl,.inl (Option.some.inj h')⟩
      | false=>rw [hx] at h'; exact ih h'
def bz (X:Cx) (scope:Scope) (cl:List (Str × Addr)) (N:List Str) (C:Addr) (s₀:Shared) (H₀:Hp) (ex:List Addr):Cx where
  prog:=X.prog
  w:=X.w
  K:=X.K
  mg:=X.mg
  base:=X.base
  A:=X.A
  N:=N
  s₀:=s₀
  H₀:=H₀
  env:=compEnvC scope cl C X.env
  outer:=X.stack
  stack:=X.stack
  ex:=ex
  fn:=fun _=>false
  calm:=X.calm
  pn:=[]
  xe:=fun _ _=>False
def okJ (X:Cx) (scope:Scope) (j:Nat):Bool:=match X.N[j]? with
  | some x=>(match X.env.scope.names.lookup x with | some .cell=>true | _=>false) && (match scope.names.lookup x with | some .free=>true | _=>false)
  | none=>false
def bG (own:List Str) (js:List Nat) (σ:St):St:=own.map (fun _=>none) ++ js.map fun j=>(σ[j]?).getD none
def cF (X:Cx) (own:List Str) (js:List Nat):List Str:=own ++ js.map fun j=>(X.N[j]?).getD (Str.ofString "")
structure CompOk (X:Cx) (scope:Scope) (cl:List (Str × Addr)) (own:List Str) (js:List Nat):Prop where
  clos:closureFor scope X.env = pure cl
  kind:scope.kind = .function
  names:∀ x ∈ scope.names,x.2 = .local → scope.names.lookup x.1 = some .local
  ncell:(scope.names.all fun y=>match y.2 with | .cell=>false | _=>true) = true
  has:(scope.names.all fun y=>match y.2 with | .free=>(cl.lookup y.1).isSome | _=>true) = true
  cells:CL X.env cl
  js:js.all (okJ X scope) = true
theorem CompOk.nc {X:Cx} {scope:Scope} {cl:List (Str × Addr)} {own:List Str} {js:List Nat} (c:CompOk X scope cl own js):∀ y ∈ scope.names,y.2 ≠ .cell:=fun y hy e=>by
  have:=List.all_eq_true.mp c.ncell y hy
  rw [e] at this
  cases this
theorem CompOk.fr {X:Cx} {scope:Scope} {cl:List (Str × Addr)} {own:List Str} {js:List Nat} (c:CompOk X scope cl own js) {x:Str} (h:scope.names.lookup x = some .free):∃ d,cl.lookup x = some d:=by
  have:=List.all_eq_true.mp c.has (x,.free) (PySem.mem_of_lookup h)
  exact Option.isSome_iff_exists.mp this
section
variable {X:Cx} {pins:List (Addr × Obj)} {σ:St} {H:Hp} {s:Shared} {scope:Scope} {cl:List (Str × Addr)} {own:List Str} {js:List Nat}
theorem mP {h1:Heap} {C:Addr} {fp:List Addr} {t':Nat} (c:CompOk X scope cl own js) (I:Inv X pins σ H s) (hf:∀ b ∈ fp,j8 X pins H b) (hlt:∀ b ∈ fp,b < s.heap.objs.size)
    (hC:s.heap.objs.size ≤ C) (hk:∀ b o,s.heap.get? b = some o → h1.get? b = some o) (hn:h1.Ns C fun _=>none) :
    Inv (bz X scope cl (cF X own js) C s H fp) [] (bG own js σ) H { s with heap:=h1,toks:=t' }:=by
  have kindOfY:∀ x k,(bz X scope cl (cF X own js) C s H fp).env.kindOf x = some k → ∃ k',scope.names.lookup x = some k' ∧ (k' = k ∨ (k' = .free ∧ k = .cell)):=fun x k e=>eh (env:=X.env) (names:=scope.names) e
  refine ⟨⟨I.ok.mod,c.kind,I.ok.glob,I.ok.blt,hC,fun x y d h1 h2=>I.ok.inj x y d (c.cells.get h1) (c.cells.get h2),fun x hx=>?_,fun x d h=>(by cases h),I.ok.hd,I.ok.frames,.inl rfl,fun b hb=>⟨?_,fun x d e=>(hf b hb).2.2.2.2.1 x d (c.cells.get e)⟩,
    fun b o e=>I.bs b o e,Nat.le_trans I.ok.bsz I.sz,fun b o e hb=>?_,fun b hb z=>?_,I.stack,I.stkFree⟩,rfl,I.bare,Un.kept hk,⟨_,hn,fun i x v e1 e2 e3=>?_⟩,fun x d e=>?_,I.hok.fresh hC,fun x d e=>I.freeC x d (c.cells.get e),fun p hp=>(by cases hp),I.hok.kept hk,?_⟩
  · rcases hx with hx | hx
    · obtain ⟨k',e1,e2⟩:=kindOfY x _ hx
      rcases e2 with e2 | ⟨e2,_⟩
      · exact absurd e2 (c.nc _ (PySem.mem_of_lookup e1))
      · subst e2; exact c.fr e1
    · obtain ⟨k',e1,e2⟩:=kindOfY x _ hx
      rcases e2 with e2 | ⟨_,e2⟩
      · subst e2; exact c.fr e1
      · cases e2
  · exact Nat.ne_of_lt (Nat.lt_of_lt_of_le (hlt b hb) hC)
  · rcases (hf b hb).2.2.2.1 with z | z
    · exact I.ok.noex b o e z
    · exact absurd (Nat.lt_of_lt_of_le (Heap.lt_size e) (Nat.le_trans I.ok.bsz z)) (Nat.lt_irrefl _)
  · rcases List.mem_cons.mp (I.stkSub b z) with q | q
    · exact (hf b hb).2.1 q
    · exact (hf b hb).2.2.1 q
  · -- a name taken from the frame
    have e1:(cF X own js)[i]? = some x:=e1
    unfold cF at e1
    unfold bG at e2
    by_cases hi:i < own.length
    · rw [List.getElem?_append_left (by simpa using hi),List.getElem?_map,List.getElem?_eq_getElem hi] at e2
      cases e2
    · rw [List.getElem?_append_right (by simpa using Nat.not_lt.mp hi),List.getElem?_map,List.length_map] at e2
      rw [List.getElem?_append_right (Nat.not_lt.mp hi),List.getElem?_map] at e1
      cases ej:js[i - own.length]? with
      | none=>rw [ej] at e2; cases e2
      | some j =>
        rw [ej] at e1 e2
        have hj:=List.all_eq_true.mp c.js j (List.mem_of_getElem? ej)
        unfold okJ at hj
        have e1':(X.N[j]?).getD (Str.ofString "") = x:=Option.some.inj e1
        have e2':(σ[j]?).getD none = some v:=Option.some.inj e2
        cases en:X.N[j]? with
        | none=>rw [en] at hj; cases hj
        | some y =>
          rw [en] at hj e1'
          have e1'':y = x:=e1'
          subst e1''
          have hv : σ[j]? = some (some v):=by
            cases es : σ[j]? with
            | none=>rw [es] at e2'; cases e2'
            | some ov=>rw [es] at e2'; rw [show ov = some v from e2']
          dsimp only at hj
          rw [Bool.and_eq_true] at hj
          have k1:X.env.scope.names.lookup y = some .cell:=by
            have:=hj.1
            split at this
            · assumption
            · cases this
          have k2:scope.names.lookup y = some .free:=by
            have:=hj.2
            split at this
            · assumption
            · cases this
          obtain ⟨m,_,hl⟩:=I.loc
          obtain ⟨u,ru,l⟩:=hl j y v en hv (.inr (.inl k1))
          refine ⟨u,ru,?_⟩
          rcases l with ⟨l,_⟩ | ⟨_,d,ed,z⟩
          · rw [show X.env.kindOf y = some .cell from k1] at l; cases l
          · obtain ⟨d',ed'⟩:=c.fr k2
            have:=c.cells.get ed'
            rw [ed] at this
            cases this
            obtain ⟨o,ho,hd⟩:=z
            refine .inr ⟨?_,d,ed',⟨o,hk _ _ ho,hd⟩⟩
            have e3:(bz X scope cl (cF X own js) C s H fp).env.scope.names.lookup y = some .local ∨ (bz X scope cl (cF X own js) C s H fp).env.scope.names.lookup y = some .cell ∨ (bz X scope cl (cF X own js) C s H fp).env.scope.names.lookup y = some .free:=e3
            rcases e3 with e3 | e3 | e3
            · obtain ⟨k',q1,q2⟩:=kindOfY y _ e3
              rw [k2] at q1
              cases q1
              rcases q2 with q2 | ⟨_,q2⟩ <;> cases q2
            · exact .inl e3
            · exact .inr e3
  · obtain ⟨v,o,ho,hd⟩:=I.cell x d (c.cells.get e)
    exact ⟨v,o,hk _ _ ho,hd⟩
  · show (bG own js σ).length = (cF X own js).length
    unfold bG cF
    simp
structure PIf (X:Cx) (ifs:List Expr) (t:TT):Prop where
  go:∀ (pins:List (Addr × Obj)) (s:Shared) (σ:St) (H:Hp) (Q:Bool → Hp → Prop),Inv X pins σ H s → t σ H Q →
    wpAny (model X.prog X.w) X.A (forIn ifs true fun c r=>if r = true then do let ok ← isTrue c X.env (eval c X.env); pure (ForInStep.yield ok) else pure (ForInStep.yield r)) (TP X pins σ Q) X.xe s
def tYes:TT:=fun _ H Q=>Q true H
theorem s8:PIf X [] tYes:=⟨fun pins s σ H Q I h=>wpAny_tests_nil ⟨H,I,h⟩⟩
theorem sS {c:Expr} {t:TT} (h:PT X c t):PIf X [c] t:=⟨fun pins s σ H Q I q=>wpAny_tests_one (h.go pins s σ H Q I q)⟩
theorem fe {prog:Program} {w:World} {A:Around} {R:Result → Shared → Prop} {s:Shared} {elt target iter:Expr} {ifs:List Expr} {scope:Scope} {pos:Pos} {it acc:Value} {env:Env} (I:Nat → Shared → Prop)
    (turn:∀ n s,I n s → wpAny (model prog w) A (pyNext it) (fun r s₁=>match r with
      | none=>R (.ok .next) s₁
      | some v=>wpAny (model prog w) A (letOwnedTupleGo target it v) (fun _ s₁=>wpAny (model prog w) A (assign target env v) (fun _ s₂ =>
          wpAny (model prog w) A (forIn ifs true fun c r=>if r = true then do let ok ← isTrue c env (eval c env); pure (ForInStep.yield ok) else pure (ForInStep.yield r)) (fun ok s₃ =>
            if ok = true then wpAny (model prog w) A (eval elt env) (fun x s₄ =>
              wpAny (model prog w) A (call (.builtin "list.append") [acc,x]) (fun _ s₅=>∃ m,m < n ∧ I m s₅) (fun _ _=>False) s₄) (fun _ _=>False) s₃
            else ∃ m,m < n ∧ I m s₃) (fun _ _=>False) s₂) (fun _ _=>False) s₁) (fun _ _=>False) s₁) (fun _ _=>False) s)
    (n:Nat) (h:I n s) :
    codeAny (model prog w) A (.compLoop (.ListComp elt [⟨target,iter,ifs,0⟩] scope pos) 0 it acc env) R s:=by
  refine codeAny_loop rfl I (fun n s hI=>?_) n h
  show wpAny _ A ((compTurn (.ListComp elt [⟨target,iter,ifs,0⟩] scope pos) 0 it acc env).onRaise (fun x=>do noteFrame x env; theTreesLotGoes x)) _ _ s
  refine wpAny_noted ?_
  rw [compTurn_list]
  refine wpAny_bind (wpAny_standAt (wpAny_bind (wpAny_mono (turn n s hI) (fun r s₁ h₁=>?_) fun _ _ h'=>h'.elim)))
  cases r with
  | none=>exact wpAny_pure h₁
  | some v =>
    refine wpAny_bind (wpAny_mono h₁ (fun _ s₁ h₁=>?_) fun _ _ h'=>h'.elim)
    refine wpAny_bind (wpAny_mono h₁ (fun _ s₂ h₂=>wpAny_bind (wpAny_mono h₂ (fun ok s₃ h₃=>?_) fun _ _ h'=>h'.elim)) fun _ _ h'=>h'.elim)
    cases ok with
    | false=>exact wpAny_pure ⟨rfl,h₃⟩
    | true =>
      exact wpAny_bind (wpAny_bind (wpAny_mono h₃ (fun x s₄ h₄=>wpAny_bind (wpAny_mono h₄ (fun _ s₅ h₅=>wpAny_pure (wpAny_pure ⟨rfl,h₅⟩)) fun _ _ h'=>h'.elim)) fun _ _ h'=>h'.elim))
def kept:St → St → Prop
  | [],[]=>True
  | none :: r,_ :: r'=>kept r r'
  | some v :: r,y :: r'=>y = some v ∧ kept r r'
  | [],_ :: _=>False
  | _ :: _,[]=>False
theorem fR:∀ {a b:St},kept a b → a.length = b.length
  | [],[],_=>rfl
  | none :: r,_ :: r',h=>congrArg (· + 1) (fR (a:=r) (b:=r') h)
  | some v :: r,y :: r',h=>congrArg (· + 1) (fR (a:=r) (b:=r') h.2)
  | [],_ :: _,h=>False.elim h
  | none :: _,[],h=>False.elim h
  | some _ :: _,[],h=>False.elim h
theorem eK:∀ {a b:St},kept a b → ∀ (i:Nat) (v:V),a[i]? = some (some v) → b[i]? = some (some v)
  | [],[],_,i,v,e=>by simp at e
  | none :: r,_ :: r',h,0,v,e=>by simp at e
  | none :: r,_ :: r',h,i + 1,v,e=>by simpa using eK (a:=r) (b:=r') h i v (by simpa using e)
  | some w :: r,y :: r',h,0,v,e=>by simp at e; subst e; simp [h.1]
  | some w :: r,y :: r',h,i + 1,v,e=>by simpa using eK (a:=r) (b:=r') h.2 i v (by simpa using e)
  | [],_ :: _,h,_,_,_=>False.elim h
  | none :: _,[],h,_,_,_=>False.elim h
  | some _ :: _,[],h,_,_,_=>False.elim h
def lz (J:It) (g:TG) (tt:TT) (te:TE) (σ0:St) (H:Hp) (Z:List V → Hp → Prop):Prop :=
  ∃ W:Nat → Nat → List V → Hp → Prop,(∃ m,W 0 m [] H) ∧ ∀ i m acc H,W i m acc H →
    (J.stop i H ∧ acc.length ≤ sizeLine ∧ Z acc H) ∨ (J.go i H ∧ acc.length < sizeLine ∧ ∃ N:List V → Hp → Prop,(∀ acc' H',N acc' H' → ∃ m',m' < m ∧ W (i + 1) m' acc' H') ∧
      ∀ x H',J.yld i H x H' → g x σ0 H' fun σ2 H2=>kept σ0 σ2 ∧ tt σ2 H2 fun b H3=>if b = true then te σ2 H3 fun v H4=>N (acc ++ [v]) H4 else N acc H3)
theorem HOk.adopt {P:Program} {w:World} {H:Hp} {h:Heap} {a:Addr} {o:HO} (x:HOk P w H h) (hn:H a = none) (new:bd P w (upd H a o) h a o):HOk P w (upd H a o) h:=fun b u e=>by
  by_cases hb:b = a
  · subst hb; rw [aH] at e; cases e; exact new
  · rw [am hb] at e
    exact (x b u e).stay (fun c v _ q=>q) (fun c q=>by rw [am (au q hn)]; exact q) fun c xs q=>by rw [am (au q hn)]; exact q
theorem jC {elt tg iter:Expr} {ifs:List Expr} {pos:Pos} {J:It} {fp:List Addr} {it:Addr} {tn:Nat → Heap → Prop} {g:TG} {tt:TT} {te:TE} {Z:List V → Hp → Prop} {E:Value → Shared → Prop}
    {RR:Value → Addr → Result → Shared → Prop} (c:CompOk X scope cl own js) (hc:X.calm = true) (I:Inv X pins σ H s) (T:Turn X.prog X.w X.K tg J fp it tn) (t0:tn 0 s.heap) (hf:∀ b ∈ fp,j8 X pins H b)
    (inner:∀ (C:Addr) (s₀:Shared) (H₀:Hp) (ex:List Addr),PG (bz X scope cl (cF X own js) C s₀ H₀ ex) tg g ∧ PIf (bz X scope cl (cF X own js) C s₀ H₀ ex) ifs tt ∧ PE (bz X scope cl (cF X own js) C s₀ H₀ ex) elt te)
    (hW:lz J g tt te (bG own js σ) H Z)
    (hRR:∀ (D C:Addr) (s':Shared) (acc:List V) (H':Hp),(∃ m,s'.heap.Ns C m) → H' D = none → Z acc H' → s.heap.objs.size ≤ C → C ≠ X.env.locals → (upd H' D (.lst acc)) C = none → (∀ h',Heap.SameBut C s'.heap h' → Inv X pins σ (upd H' D (.lst acc)) { s' with heap:=h' }) → RR (.ref D) C (.ok .next) s') :
    wpAny (model X.prog X.w) X.A (newList []) (fun acc s₃=>wpAny (model X.prog X.w) X.A (newFunctionEnv scope X.env.globals cl [] X.env.qual none .none (some X.env)) (fun cenv s₄ =>
      codeAny (model X.prog X.w) X.A (.compStart (.ListComp elt [⟨tg,iter,ifs,0⟩] scope pos) 0 (.ref it) acc { cenv with scope:=relabel scope X.env }) (RR acc cenv.locals) s₄) E s₃) E s:=by
  refine wpAny_newObj_type (wpAny_newFunctionEnv c.nc (by intro y hy; simp at hy) (fun h₁ hns₁ hsb₁=>?_) c.kind)
  dsimp only at hns₁ hsb₁ ⊢
  generalize hH2:s.heap.push { cls:=.type "list",dict:=none,data:=.seq ([]:List Value).toArray } = H2 at hns₁ hsb₁ ⊢
  have hCs:H2.objs.size = s.heap.objs.size + 1:=by rw [← hH2,Heap.size_push]
  have hns₁:h₁.Ns H2.objs.size (fun _=>none):=hns₁
  have hCle:s.heap.objs.size ≤ H2.objs.size:=by rw [hCs]; exact Nat.le_succ _
  have hDC:s.heap.objs.size ≠ H2.objs.size:=by rw [hCs]; exact Nat.ne_of_lt (Nat.lt_succ_self _)
  have below:∀ b,b < s.heap.objs.size → b ≠ H2.objs.size ∧ b ≠ s.heap.objs.size:=fun b hb=>⟨by rw [hCs]; exact Nat.ne_of_lt (Nat.lt_succ_of_lt hb),Nat.ne_of_lt hb⟩
  have old:∀ b o,s.heap.get? b = some o → h₁.get? b = some o:=fun b o e=>hsb₁.extBut b o (below b (Heap.lt_size e)).1 (Heap.get?_push_of_some _ (hH2 ▸ Heap.get?_push_of_some _ e))
  have hD1:h₁.get? s.heap.objs.size = some { cls:=.type "list",data:=.seq ([]:List Value).toArray }:=hsb₁.extBut _ _ hDC (Heap.get?_push_of_some _ (hH2 ▸ Heap.get?_push_size _ rfl))
  have hlt:∀ b ∈ fp,b < s.heap.objs.size:=fun b hb=>by
    obtain ⟨o,e,_⟩:=T.obj 0 _ t0 b hb
    exact Heap.lt_size e
  have hCL:H2.objs.size ≠ X.env.locals:=fun z=>absurd (Nat.lt_of_lt_of_le I.lt (by rw [← z]; exact hCle)) (Nat.lt_irrefl _)
  have hDfs:s.heap.objs.size ∉ frs X.stack:=fun z=>by
    rcases List.mem_cons.mp (I.stkSub _ z) with q | q
    · exact absurd I.lt (by rw [← q]; exact Nat.lt_irrefl _)
    · exact I.nofs (Nat.le_refl _) q
  have hfs:∀ b ∈ fp,b ∉ frs X.stack:=fun b hb z=>by
    rcases List.mem_cons.mp (I.stkSub b z) with q | q
    · exact (hf b hb).2.1 q
    · exact (hf b hb).2.2.1 q
  have hDcell:∀ x d,cl.lookup x = some d → d ≠ s.heap.objs.size:=fun x d e=>by
    obtain ⟨v,q⟩:=I.cell x d (c.cells.get e)
    exact Nat.ne_of_lt q.lt
  have fresh:H s.heap.objs.size = none:=I.hok.fresh (Nat.le_refl _)
  obtain ⟨W,⟨m0,w0⟩,turn⟩:=hW
  have loop:∀ s₃:Shared,s₃ = { s with heap:=h₁,toks:=s.toks + ([]:List (Str × Value)).length } →
      codeAny (model X.prog X.w) X.A (.compLoop (.ListComp elt [⟨tg,iter,ifs,0⟩] scope pos) 0 (.ref it) (.ref s.heap.objs.size) (compEnvC scope cl H2.objs.size X.env)) (RR (.ref s.heap.objs.size) H2.objs.size) s₃:=by
    rintro s₃ rfl
    have I0:=mP (t':=s.toks + ([]:List (Str × Value)).length) c I hf hlt hCle old hns₁
    obtain ⟨hg,hi,he⟩:=inner H2.objs.size s H fp
    generalize hY:bz X scope cl (cF X own js) H2.objs.size s H fp = Y at I0 hg hi he
    have Yp:Y.prog = X.prog:=by rw [← hY]; rfl
    have Yw:Y.w = X.w:=by rw [← hY]; rfl
    have YK:Y.K = X.K:=by rw [← hY]; rfl
    have YA:Y.A = X.A:=by rw [← hY]; rfl
    have Ye:Y.env = compEnvC scope cl H2.objs.size X.env:=by rw [← hY]; rfl
    have Yl:Y.env.locals = H2.objs.size:=by rw [← hY]; rfl
    have Yc:Y.env.cells = cl:=by rw [← hY]; rfl
    have Yf:Y.fs = frs X.stack:=by rw [← hY]; rfl
    have Yx:Y.ex = fp:=by rw [← hY]; rfl
    have Ys:Y.s₀ = s:=by rw [← hY]; rfl
    have YH:Y.H₀ = H:=by rw [← hY]; rfl
    have Yn:Y.pn = []:=by rw [← hY]; rfl
    have Yo:Y.calm = true:=by rw [← hY]; exact hc
    have YE:Y.xe = fun _ _=>False:=by rw [← hY]; rfl
    have fpY:∀ {H':Hp} (pn:List (Addr × Obj)),(∀ b ∈ fp,H' b = none) → (∀ b ∈ fp,∀ p ∈ pn,p.1 ≠ b) → ∀ b ∈ fp,j8 Y pn H' b:=fun pn hn hp b hb =>
      ⟨hn b hb,by rw [Yl]; exact (below b (hlt b hb)).1,by rw [Yf]; exact hfs b hb,.inl (by rw [Yx]; exact hb),fun x d e=>(hf b hb).2.2.2.2.1 x d (c.cells.get (by rw [← Yc]; exact e)),fun p hp'=>hp b hb p (by rw [Yn] at hp'; exact hp')⟩
    refine fe (fun n s'=>∃ i acc its k H',Inv Y [] (bG own js σ) H' s' ∧ tn i s'.heap ∧ (∀ b ∈ fp,H' b = none) ∧ W i n acc H' ∧ H' s.heap.objs.size = none ∧ s'.heap.get? s.heap.objs.size = some { cls:=.type "list",data:=.seq (its:List Value).toArray k } ∧ aZ acc its) ?_ m0
      ⟨0,[],[],0,H,I0,T.keep 0 _ _ t0 (fun b hb o e=>old b o e),fun b hb=>(hf b hb).1,w0,fresh,hD1,.nil⟩
    rintro n s' ⟨i,acc,its,k,H',I',tn',fr',w',hD',oD',hv'⟩
    have hpinD:∀ b ∈ fp,∀ p ∈ [(s.heap.objs.size,({ cls:=.type "list",data:=.seq its.toArray k }:Obj))],p.1 ≠ b:=fun b hb p hp=>by
      rw [List.mem_singleton] at hp
      subst hp
      exact fun z=>(below b (hlt b hb)).2 z.symm
    have ID:Inv Y [(s.heap.objs.size,({ cls:=.type "list",data:=.seq its.toArray k }:Obj))] (bG own js σ) H' s':=I'.pins_of fun p hp=>by
      rw [List.mem_singleton] at hp
      subst hp
      exact ⟨oD',hD',by rw [Yl]; exact hDC,by rw [Yf]; exact hDfs,fun v z=>by cases z⟩
    rcases turn i n acc H' w' with ⟨stop,hlen,hz⟩ | ⟨go,hlen,N,hN,step⟩
    · have hd:=T.done Y Yp Yw YK Yo i _ s' (bG own js σ) H' (fun _ _=>False) ID (fpY _ fr' hpinD) tn' stop
      rw [YA] at hd
      refine thn hd fun r s1 ⟨hr,I1⟩=>?_
      subst hr
      obtain ⟨oD1,_⟩:=I1.pin _ (List.mem_append_right _ (List.mem_singleton.mpr rfl))
      have hC0:H' H2.objs.size = none:=by have:=I1.free; rw [Yl] at this; exact this
      have B1:Un (frs X.stack) fp H H' s.heap s1.heap:=by have:=I1.base; rw [Yf,Yx,YH,Ys] at this; exact this
      refine hRR s.heap.objs.size H2.objs.size s1 acc H' (by obtain ⟨m,hn,_⟩:=I1.loc; rw [Yl] at hn; exact ⟨m,hn⟩) hD' hz hCle hCL (by rw [am (Ne.symm hDC)]; exact hC0) fun h' hsb=>?_
      have at':∀ b o,b ≠ H2.objs.size → s1.heap.get? b = some o → h'.get? b = some o:=fun b o hb e=>by rw [hsb.2 b hb]; exact e
      refine I.call' (s':={ s1 with heap:=h' }) (ch:=fp) (by have:=I1.os; rw [Ys] at this; exact this) ⟨fun b o q nn hb hx=>?_,fun b o q nn hb hx=>?_,fun b o q nn hx=>?_,fun b o q hx=>?_,fun b xs q=>?_,fun b o u q=>?_,fun b ps q=>?_⟩ ?_ I1.bare fun b hb=>⟨(hf b hb).2.2.2.1,(hf b hb).2.1,(hf b hb).2.2.2.2.1,(hf b hb).2.2.2.2.2⟩
      · exact at' b o (below b (Heap.lt_size q)).1 (B1.keep b o q nn hb hx)
      · obtain ⟨sl,e⟩:=B1.slot b o q nn hb hx
        exact ⟨sl,at' b _ (below b (Heap.lt_size q)).1 e⟩
      · rw [am (below b (Heap.lt_size q)).2]; exact B1.free b o q nn hx
      · obtain ⟨o',e⟩:=B1.there b o q hx
        exact ⟨o',at' b _ (below b (Heap.lt_size q)).1 e⟩
      · have q':=B1.tups b xs q
        rw [am (au q' hD')]; exact q'
      · have q':=B1.frzs b o u q
        rw [am (au q' hD')]; exact q'
      · obtain ⟨more,q'⟩:=B1.tbls b ps q
        exact ⟨more,by rw [am (au q' hD')]; exact q'⟩
      · have hok1:HOk X.prog X.w H' h':=fun a o e=>by
          have hok:=I1.hok
          rw [Yp,Yw] at hok
          refine (hok a o e).stay (fun b u hb q=>at' b u ?_ q) (fun _ q=>q) fun _ _ q=>q
          rcases hb with rfl | hb
          · exact au e hC0
          · exact au hb hC0
        exact hok1.adopt hD' ⟨hlen,its,k,hv',at' _ _ hDC oD1⟩
    · have hd:=T.item Y Yp Yw YK Yo i _ s' (bG own js σ) H' (fun _ _=>False) ID (fpY _ fr' hpinD) tn' go
      rw [YA] at hd
      refine thn hd fun r s1 ⟨u,hr,h4⟩=>?_
      subst hr
      have h4:=h4
      refine thn h4 fun _ s2 ⟨x,H5,I5,r5,y5,tn5,fr5⟩=>?_
      have I5':=I5.pinned (fpY _ fr5 hpinD) (T.obj _ _ tn5)
      have hg':=hg.go _ s2 _ H5 x u _ I5' r5 (step x H5 y5)
      rw [Yp,Yw,YA,Ye,YE] at hg'
      refine thn hg' fun _ s3 ⟨σ6,H6,I6,kp6,q6⟩=>?_
      have hi':=hi.go _ s3 σ6 H6 _ I6 q6
      rw [Yp,Yw,YA,Ye,YE] at hi'
      refine thn hi' fun ok s4 ⟨H7,I7,q7⟩=>?_
      cases ok with
      | false =>
        rw [if_neg Bool.false_ne_true] at q7 ⊢
        obtain ⟨m',hm,w7⟩:=hN _ _ q7
        obtain ⟨oD7,hD7,_⟩:=I7.pin _ (List.mem_append_right _ (List.mem_append_left _ (List.mem_singleton.mpr rfl)))
        refine ⟨m',hm,i + 1,acc,its,k,H7,(I7.pins_of (pins':=[]) fun p hp=>(by cases hp)).weak (fR kp6) (eK kp6),T.keep _ _ _ tn5 fun b hb o e=>(I7.pin (b,o) (List.mem_append_right _ (List.mem_append_right _ (cy hb e)))).1,fun b hb=>?_,w7,hD7,oD7,hv'⟩
        obtain ⟨o,e,_⟩:=T.obj _ _ tn5 b hb
        exact (I7.pin (b,o) (List.mem_append_right _ (List.mem_append_right _ (cy hb e)))).2.1
      | true =>
        rw [if_pos rfl] at q7 ⊢
        have he':=he.go _ s4 σ6 H7 _ I7 q7
        rw [Yp,Yw,YA,Ye,YE] at he'
        refine thn he' fun v s5 ⟨xv,H8,I8,r8,n8⟩=>?_
        obtain ⟨m',hm,w8⟩:=hN _ _ n8
        obtain ⟨oD8,hD8,_⟩:=I8.pin _ (List.mem_append_right _ (List.mem_append_left _ (List.mem_singleton.mpr rfl)))
        have hsz:its.toArray.size < sizeLine:=by rw [List.size_toArray,← hv'.length]; exact hlen
        refine call_meets F.slot_list_append ⟨_,oD8,rfl⟩ F.entry_list_append (F.args_list_append_2 _ _) (PySem.list_append s.heap.objs.size its.toArray k v (Nat.le_of_lt hsz)) ⟨oD8,?_⟩
        have q:=PySem.IsL.update oD8 (fun a=>a.push v)
        have J8:Inv Y (ii fp s2.heap) σ6 H8 s5:=I8.pins_of fun p hp=>I8.pin p (List.mem_append_right _ (List.mem_append_right _ hp))
        have ne8:∀ b,b ∈ fp → b ≠ s.heap.objs.size:=fun b hb=>(below b (hlt b hb)).2
        have J9:=J8.turned (t':=s5.toks) (h':=s5.heap.update s.heap.objs.size (Obj.mapSeq fun a=>a.push v)) (it:=s.heap.objs.size) (fun b o hb e=>(Heap.get?_update_other s5.heap _ (Ne.symm hb)).trans e) hD8 (by rw [Yl]; exact hDC) (.inr (by rw [Ys]; exact Nat.le_refl _)) (fun x d e=>hDcell x d (by rw [← Yc]; exact e))
          (fun p hp=>by
            rw [Yn,List.nil_append] at hp
            obtain ⟨hb,_⟩:=iJ hp
            exact ne8 _ hb)
        have keep9:∀ b o,b ∈ fp → s2.heap.get? b = some o → (s5.heap.update s.heap.objs.size (Obj.mapSeq fun a=>a.push v)).get? b = some o:=fun b o hb e=>(J9.pin (b,o) (List.mem_append_right _ (cy hb e))).1
        refine ⟨m',hm,i + 1,acc ++ [xv],its ++ [v],(if ((its ++ [v]).toArray.size == its.toArray.size) = true then k else k + 1),H8,(J9.pins_of (pins':=[]) fun p hp=>(by cases hp)).weak (fR kp6) (eK kp6),T.keep _ _ _ tn5 fun b hb o e=>keep9 b o hb e,fun b hb=>?_,w8,hD8,?_,hv'.append (.cons r8 .nil)⟩
        · obtain ⟨o,e,_⟩:=T.obj _ _ tn5 b hb
          exact (J9.pin (b,o) (List.mem_append_right _ (cy hb e))).2.1
        · have q':=q
          simp only [List.push_toArray] at q'
          exact q'
  exact codeAny_compStart_list (loop _ rfl) (T.self _ 0 _ _ _ (T.keep 0 _ _ t0 (fun b hb o e=>old b o e)) (loop _ rfl))
def jp (wi:TI) (g:TG) (tt:TT) (te:TE) (own:List Str) (js:List Nat):TE:=fun σ H Q=>wi σ H fun J H1=>lz J g tt te (bG own js σ) H1 fun acc H2=>∀ p,H2 p = none → Q (.ref p) (upd H2 p (.lst acc))
theorem ko {elt tg iter:Expr} {ifs:List Expr} {pos:Pos} {wi:TI} {g:TG} {tt:TT} {te:TE} (own:List Str) (js:List Nat) (c:CompOk X scope cl own js) (hc:X.calm = true) (hi:PI X tg iter wi)
    (inner:∀ (C:Addr) (s₀:Shared) (H₀:Hp) (ex:List Addr),PG (bz X scope cl (cF X own js) C s₀ H₀ ex) tg g ∧ PIf (bz X scope cl (cF X own js) C s₀ H₀ ex) ifs tt ∧ PE (bz X scope cl (cF X own js) C s₀ H₀ ex) elt te)
    (hs:∀ x,foldedSetIterable iter X.env x = pure x:=by intro _; rfl):PE X (.ListComp elt [⟨tg,iter,ifs,0⟩] scope pos) (jp wi g tt te own js):=by
  refine ⟨fun pins s σ H Q I h=>?_⟩
  rw [eval_ListComp]
  refine wpAny_comprehension_free (use:=none) rfl hs c.clos c.kind c.names (thn (hi.go pins s σ H _ I h) fun v s1 h1=>thn h1 fun itv s2 h2=>?_)
  obtain ⟨it,fp,tn,J,H2,e,I2,T,st2,f2,hW⟩:=h2
  subst e
  refine jC (RR:=fun acc C=>compPost (model X.prog X.w) X.A X.xe none (EP X pins σ Q) acc C) c hc I2 T st2 f2 inner hW ?_
  intro D C s' acc H' hn hD hz hDC hCL hUC hI
  exact ⟨hn.choose,hn.choose_spec,fun h' hsb=>⟨.ref D,_,hI h' hsb,rfl,hz D hD⟩⟩
theorem d4 {elt tg iter:Expr} {ifs:List Expr} {pos spos py:Pos} {wi:TI} {g:TG} {tt:TT} {te:TE} {i:Nat} {y:Str} (own:List Str) (js:List Nat) (c:CompOk X scope cl own js) (hc:X.calm = true) (hN:X.N.Nodup) (hy:X.N[i]? = some y) (hx:Loc X.env.scope y) (hi:PI X tg iter wi)
    (inner:∀ (C:Addr) (s₀:Shared) (H₀:Hp) (ex:List Addr),PG (bz X scope cl (cF X own js) C s₀ H₀ ex) tg g ∧ PIf (bz X scope cl (cF X own js) C s₀ H₀ ex) ifs tt ∧ PE (bz X scope cl (cF X own js) C s₀ H₀ ex) elt te)
    (hsw:swapsWith (.ListComp elt [⟨tg,iter,ifs,0⟩] scope pos) (some (.Name y py)) spos.line X.env = pure true:=by rfl)
    (hs:∀ x,foldedSetIterable iter X.env x = pure x:=by intro _; rfl) (hf:X.fn y = true ∨ X.env.scope.names.lookup y = some .local:=by first | exact .inl rfl | exact .inr rfl | assumption) :
    PS X (.Assign [.Name y py] (.ListComp elt [⟨tg,iter,ifs,0⟩] scope pos) spos) (qJ (jp wi g tt te own js) (hV i)):=by
  refine ⟨fun pins s σ H D I h=>?_⟩
  rw [exec_Assign_Name_used _ _ _ _ hsw]
  refine wpAny_bind (wpAny_standAt (wpAny_bind ?_))
  show wpAny _ X.A (do let _ ← comprehension (.ListComp elt [⟨tg,iter,ifs,0⟩] scope pos) scope X.env _ (newList []) false (eval iter X.env) (some (assign (.Name y py) X.env))) _ _ s
  refine wpAny_bind (wpAny_mono (wpAny_comprehension_free (use:=some (assign (.Name y py) X.env)) (Q:=fun _ s'=>SP X pins D .next s') rfl hs c.clos c.kind c.names
    (thn (hi.go pins s σ H _ I h) fun v s1 h1=>thn h1 fun itv s2 h2=>?_)) (fun _ s' hq=>wpAny_pure (wpAny_pure hq)) fun _ _ e=>e)
  obtain ⟨it,fp,tn,J,H2,e,I2,T,st2,f2,hW⟩:=h2
  subst e
  refine jC (RR:=fun acc C=>compPost (model X.prog X.w) X.A X.xe (some (assign (.Name y py) X.env)) (fun _ s'=>SP X pins D .next s') acc C) c hc I2 T st2 f2 inner hW ?_
  intro D' C s' acc H' hn hD hz hDC hCL hUC hI
  show wpAny _ X.A (assign (.Name y py) X.env (.ref D')) _ _ _
  have I9:=hI s'.heap (Heap.SameBut.refl _ _)
  obtain ⟨m,hm⟩:=hn
  refine wpAny_assign_Name (ji (v:=.ref D') I9 hN hy hx rfl (fun s'' I'' ⟨a,sb,ha⟩=>?_) hf)
  have aC:C ≠ a:=by
    rcases ha with ha | ha
    · rw [ha]; exact hCL
    · intro z
      subst z
      obtain ⟨v,q⟩:=I2.cell y C ha
      exact absurd (Nat.lt_of_lt_of_le q.lt hDC) (Nat.lt_irrefl _)
  refine ⟨m,hm.sameBut sb aC,fun h' hsb=>?_⟩
  refine ⟨σ.set i (some (.ref D')),upd H' D' (.lst acc),I''.turned (t':=s''.toks) (it:=C) (fun b o hb e=>by rw [hsb.2 b hb]; exact e) ?_ hCL (.inr (Nat.le_trans I2.sz hDC)) (fun x d e z=>?_) (fun p hp z=>?_),hz D' hD⟩
  · exact hUC
  · obtain ⟨v,q⟩:=I2.cell x d e
    rw [z] at q
    exact absurd (Nat.lt_of_lt_of_le q.lt hDC) (Nat.lt_irrefl _)
  · have q:=Heap.lt_size (I2.pin p hp).1
    rw [z] at q
    exact absurd (Nat.lt_of_lt_of_le q hDC) (Nat.lt_irrefl _)
end
def Ite (a:Addr):It :=
  ⟨fun i H=>∃ xs x,H a = some (.lst xs) ∧ xs[i]? = some x,fun i H v H'=>∃ p x,H p = none ∧ v = .ref p ∧ H' = upd H p (.tup [.int i,x]) ∧ ∀ xs,H a = some (.lst xs) → xs[i]? = some x,fun i H=>∃ xs,H a = some (.lst xs) ∧ xs.length ≤ i⟩
theorem oE {P:Program} {w:World} {K:PySem.W.Frag} {es:List Expr} {k:Nat} {pos:Pos} (a e it:Addr) (hne:e ≠ it) :
    Turn P w K (.Tuple es k pos) (Ite a) [e,it] e (fun i h=>(∃ old,IsEnum h e it i old) ∧ h.IsListIter it a i) where
  mem:=by simp
  obj:=fun i h st b hb=>by
    rw [List.mem_cons,List.mem_singleton] at hb
    rcases hb with rfl | rfl
    · obtain ⟨⟨old,q⟩,_⟩:=st
      exact ⟨_,q,fun v z=>by cases z⟩
    · obtain ⟨_,o,q,c,d⟩:=st
      exact ⟨o,q,fun v z=>by rw [d] at z; cases z⟩
  keep:=fun i h h' st kp=>⟨by obtain ⟨old,q⟩:=st.1; exact ⟨old,kp e (by simp) _ q⟩,st.2.at fun o q=>kp it (by simp) o q⟩
  item:=by
    intro X hP hw hK hc i pins s σ H E I hf st hg
    subst hP hw hK
    obtain ⟨xs,x,hq,hx⟩:=hg
    obtain ⟨⟨old,he⟩,hit⟩:=st
    obtain ⟨its,rv,p,hz⟩:=I.list (SqL.of hq)
    obtain ⟨u,hu,ru⟩:=rv.get hx
    obtain ⟨f0,f1,f2,f3,f4,f5⟩:=hf e (by simp)
    obtain ⟨g0,g1,g2,g3,g4,g5⟩:=hf it (by simp)
    refine wpAny_pyNext_enum_item he hit p.isList (x:=u) (by simpa using hu) hne fun h' eo it' ht hsz hk=>?_
    refine ⟨.ref s.heap.objs.size,rfl,?_⟩
    refine wpAny_letOwnedTupleGo_enum eo fun h2 he2 hs2=>?_
    have fr:H s.heap.objs.size = none:=I.hok.fresh (Nat.le_refl _)
    have ne2:∀ b,b < s.heap.objs.size → b ≠ s.heap.objs.size:=fun b hb=>Nat.ne_of_lt hb
    have ee:e < s.heap.objs.size:=Heap.lt_size he
    have k2:∀ b o,b ≠ e → b ≠ it → s.heap.get? b = some o → h2.get? b = some o:=fun b o h1 h2' q=>(hs2.2 b h1).trans (hk b o h1 h2' q)
    have ht2:h2.get? s.heap.objs.size = some { cls:=.type "tuple",data:=.seq #[.int i s.toks,u] }:=(hs2.2 _ (Nat.ne_of_gt ee)).trans ht
    have trk:∀ b v,H b = some v → b ≠ e ∧ b ≠ it:=fun b v q=>⟨au q f0,au q g0⟩
    have hok0:HOk X.prog X.w H h2:=fun b o q=>(I.hok b o q).stay (fun c v hc q'=>by
      rcases hc with rfl | hc
      · exact k2 c v (trk c _ q).1 (trk c _ q).2 q'
      · exact k2 c v (trk c _ hc).1 (trk c _ hc).2 q') (fun _ z=>z) fun _ _ z=>z
    have I1:Inv X pins σ (upd H s.heap.objs.size (.tup [.int i,x])) { s with heap:=h2,toks:=s.toks + 1 }:=by
      refine I.step (g':=s.gens) (d':=s.drawn) (ch:=[e,it]) (fun b hb=>?_) (fun b o _ _ hc q _=>k2 b o (fun z=>hc (by simp [z])) (fun z=>hc (by simp [z])) q) (fun b o _ _ hc q _=>⟨o.slots,k2 b o (fun z=>hc (by simp [z])) (fun z=>hc (by simp [z])) q⟩)
        (fun b o _ q n=>by rw [am (ne2 b (Heap.lt_size q))]; exact n) (fun b o hc q=>⟨o,k2 b o (fun z=>hc (by simp [z])) (fun z=>hc (by simp [z])) q⟩) (fun b ys q=>by rw [am (au q fr)]; exact q) (fun b o v q=>by rw [am (au q fr)]; exact q)
        (fun b ps q=>⟨#[],by rw [am (au q fr),q]; simp⟩) (fun m hm=>?_) ?_ I.bare
      · rw [List.mem_cons,List.mem_singleton] at hb
        rcases hb with rfl | rfl
        · exact ⟨f3,f1,f4,f5⟩
        · exact ⟨g3,g1,g4,g5⟩
      · obtain ⟨o,es',ep,ho,r⟩:=hm
        exact ⟨o,es',ep,k2 _ o (Ne.symm f1) (Ne.symm g1) ho,r⟩
      · exact hok0.adopt fr ⟨by show 2 ≤ sizeLine; decide,[.int i s.toks,u],.cons ⟨_,rfl⟩ (.cons ru .nil),⟨_,ht2,rfl,_,rfl⟩⟩
    refine ⟨.ref s.heap.objs.size,_,I1,rfl,⟨_,x,fr,rfl,rfl,fun ys hy=>by rw [hq] at hy; cases hy; exact hx⟩,⟨⟨_,by simpa using he2⟩,it'.extBut hs2.extBut (Ne.symm hne)⟩,fun b hb=>?_⟩
    have:H b = none:=(hf b hb).1
    have hb':b < s.heap.objs.size:=by
      rw [List.mem_cons,List.mem_singleton] at hb
      rcases hb with rfl | rfl
      · exact ee
      · obtain ⟨o,q,_⟩:=hit; exact Heap.lt_size q
    rw [am (ne2 b hb')]
    exact this
  done:=by
    intro X hP hw hK hc i pins s σ H E I hf st hg
    subst hP hw hK
    obtain ⟨xs,hq,hx⟩:=hg
    obtain ⟨⟨old,he⟩,hit⟩:=st
    obtain ⟨its,rv,p,hz⟩:=I.list (SqL.of hq)
    obtain ⟨g0,g1,g2,g3,g4,g5⟩:=hf it (by simp)
    have hl:=rv.length
    exact wpAny_pyNext_enum_end (I.ok.hd hc) he hit p.isList (by simp; exact kR hx hl) fun h' eb=>⟨rfl,I.turned (t':=s.toks) (fun b o hb e=>eb b o hb e) g0 g1 g3 g4 g5⟩
  self:=fun _ _ _ _ _ st h=>by
    obtain ⟨⟨old,he⟩,_⟩:=st
    exact wpAny_pyIter_enum he h
section
variable {X:Cx} {es:List Expr} {k:Nat} {tpos:Pos}
def iEnum (ta:TA):TI:=fun σ H R=>ta σ H fun vs H1=>∃ a,vs = [.ref a] ∧ (∃ xs,H1 a = some (.lst xs)) ∧ R (Ite a) H1
theorem tQ {l:Expr} {ta:TA} {p pos:Pos} (hg:Gl X "enumerate") (hm:X.mg "enumerate" = none) (ha:PA X [l] ta) (hs:starEach [l] X.env = [(false,eval l X.env)]:=by rfl):PI X (.Tuple es k tpos) (.Call (.Name "enumerate" p) [l] [] pos) (iEnum ta):=by
  refine ⟨fun pins s σ H R I h=>?_⟩
  refine wpAny_Call_Name_kw (eD I hg hm kF ?_)
  refine PyProof.Rows.callWith_type1 (thn (ha pos pins s σ H _ I h) fun us s1 ⟨vs,H1,I1,r1,a,e,⟨xs,hx⟩,q⟩=>?_) hs rfl
  subst e
  obtain ⟨u,rfl,ru⟩:=eB r1
  cases ru
  obtain ⟨_,its,n,rv,ho⟩:=(show bd X.prog X.w H1 s1.heap a (.lst xs) from I1.hok a _ hx)
  refine call_enumerate_1 ho fun h' he hit hsz hk=>?_
  have I2:Inv X pins σ H1 { s1 with heap:=h' }:=I1.kept (t':=s1.toks) hk
  refine wpAny_pyIter_enum he ⟨s1.heap.objs.size + 1,[s1.heap.objs.size + 1,s1.heap.objs.size],_,Ite a,H1,rfl,I2,oE a (s1.heap.objs.size + 1) s1.heap.objs.size (Nat.succ_ne_self _),⟨⟨_,he⟩,hit⟩,fun b hb=>?_,q⟩
  have hb':s1.heap.objs.size ≤ b:=by
    rw [List.mem_cons,List.mem_singleton] at hb
    rcases hb with rfl | rfl <;> (first|lia|omega)
  have z:=I1.fpOk (H':=H1) hb' (I1.hok.fresh hb')
  exact z
end
mutual
def toP:D → PyData
  | .non=>.none
  | .bl b=>.bool b
  | .int i=>.int i
  | .str x=>.str x
  | .tup ds=>.tuple (toPs ds)
  | .lst ds=>.list (toPs ds)
  | .dct=>.dict []
  | .dic _ _=>.dict []
  | .scr _ _=>.dict []
  | .ext _=>.dict []
def toPs:List D → List PyData
  | []=>[]
  | d :: ds=>toP d :: toPs ds
end
mutual
theorem dW {X:Cx} {pins:List (Addr × Obj)} {σ:St} {H:Hp} {s:Shared} (I:Inv X pins σ H s):∀ (d:D) (v:V) (u:Value),Rep H d v → a7 v u → (toP d).canLay0 = true → ∃ as,Reads s.heap u (toP d) as
  | .non,v,u,h,r,_=>by rw [Rep] at h; subst h; cases r; rw [toP]; exact ⟨_,.none⟩
  | .bl b,v,u,h,r,_=>by rw [Rep] at h; subst h; cases r; rw [toP]; exact ⟨_,.bool b⟩
  | .int i,v,u,h,r,_=>by rw [Rep] at h; subst h; obtain ⟨t,rfl⟩:=r; rw [toP]; exact ⟨_,.int i t⟩
  | .str x,v,u,h,r,_=>by rw [Rep] at h; subst h; obtain ⟨t,rfl⟩:=r; rw [toP]; exact ⟨_,.str x t⟩
  | .tup ds,v,u,h,r,c=>by
    rw [Rep] at h
    obtain ⟨a,xs,rfl,ha,hx⟩:=h
    cases r
    rw [toP] at c ⊢
    obtain ⟨_,its,rv,o,e1,e2,n,e3⟩:=(show bd X.prog X.w H s.heap a (.tup xs) from I.hok a _ ha)
    obtain ⟨as,q⟩:=reps_reads I ds xs its hx rv (by rw [PyData.canLay0] at c; exact c)
    exact ⟨_,reads_tuple_at e1 e2 e3 (by simpa using q)⟩
  | .lst ds,v,u,h,r,c=>by
    rw [Rep] at h
    obtain ⟨a,xs,rfl,ha,hx⟩:=h
    cases r
    rw [toP] at c ⊢
    obtain ⟨_,its,n,rv,e1⟩:=(show bd X.prog X.w H s.heap a (.lst xs) from I.hok a _ ha)
    obtain ⟨as,q⟩:=reps_reads I ds xs its hx rv (by rw [PyData.canLay0] at c; exact c)
    exact ⟨_,reads_list_at e1 rfl rfl (by simpa using q)⟩
  | .dct,v,u,h,r,c=>by rw [toP,PyData.canLay0] at c; cases c
  | .dic _ _,v,u,h,r,c=>by rw [toP,PyData.canLay0] at c; cases c
  | .scr _ _,v,u,h,r,c=>by rw [toP,PyData.canLay0] at c; cases c
  | .ext _,v,u,h,r,c=>by rw [toP,PyData.canLay0] at c; cases c
theorem reps_reads {X:Cx} {pins:List (Addr × Obj)} {σ:St} {H:Hp} {s:Shared} (I:Inv X pins σ H s):∀ (ds:List D) (vs:List V) (us:List Value),Reps H ds vs → aZ vs us → PyData.canLayAll0 (toPs ds) = true → ∃ as,ReadsAll s.heap us (toPs ds) as
  | [],vs,us,h,r,_=>by rw [Reps] at h; subst h; cases r; rw [toPs]; exact ⟨_,.nil⟩
  | d :: ds,vs,us,h,r,c=>by
    rw [Reps] at h
    obtain ⟨v,vs',rfl,h1,h2⟩:=h
    rw [toPs] at c ⊢
    rw [PyData.canLayAll0,Bool.and_eq_true] at c
    cases r with
    | cons r1 r2 =>
      obtain ⟨as,q1⟩:=dW I d v _ h1 r1 c.1
      obtain ⟨bs,q2⟩:=reps_reads I ds vs' _ h2 r2 c.2
      exact ⟨_,.cons q1 q2⟩
end
section
variable {X:Cx}
def rEqD:R2:=fun x y H Q=>∃ d e,Rep H d x ∧ Rep H e y ∧ SeqAt.shaped (toP d) = true ∧ SeqAt.shaped (toP e) = true ∧ Q (.bl (PyData.eqv (toP d) (toP e))) H
def rNeD:R2:=fun x y H Q=>∃ d e,Rep H d x ∧ Rep H e y ∧ SeqAt.shaped (toP d) = true ∧ SeqAt.shaped (toP e) = true ∧ Q (.bl (!PyData.eqv (toP d) (toP e))) H
theorem cR (hu:X.A.units + 64 < cLine):OpR X (compareOp .Eq) rEqD:=by
  intro pins s σ H x y v u Q I rx ry h
  obtain ⟨d,e,h1,h2,c1,c2,q⟩:=h
  obtain ⟨as,r1⟩:=dW I d x v h1 rx (SeqAt.canLay_of_shaped c1)
  obtain ⟨bs,r2⟩:=dW I e y u h2 ry (SeqAt.canLay_of_shaped c2)
  exact eq_dataH r1 r2 c1 c2 hu ⟨.bl _,H,I,rfl,q⟩
theorem ci (hu:X.A.units + 64 < cLine):OpR X (compareOp .NotEq) rNeD:=by
  intro pins s σ H x y v u Q I rx ry h
  obtain ⟨d,e,h1,h2,c1,c2,q⟩:=h
  obtain ⟨as,r1⟩:=dW I d x v h1 rx (SeqAt.canLay_of_shaped c1)
  obtain ⟨bs,r2⟩:=dW I e y u h2 ry (SeqAt.canLay_of_shaped c2)
  exact ne_dataH r1 r2 c1 c2 hu ⟨.bl _,H,I,rfl,q⟩
end
def ai (ns:List Int):D:=.lst (ns.map .int)
theorem f6 (ns:List Int):toPs (ns.map .int) = ns.map .int:=by
  induction ns with
  | nil=>rw [List.map_nil,toPs]; rfl
  | cons n r ih=>rw [List.map_cons,toPs,ih,toP]; rfl
theorem qp (ns:List Int):PyData.canLayAll0 (ns.map .int) = true ∧ PyData.depthAll (ns.map .int) ≤ 1:=by
  induction ns with
  | nil=>simp [PyData.canLayAll0,PyData.depthAll]
  | cons n r ih=>simp only [List.map_cons,PyData.canLayAll0,PyData.canLay0,PyData.depthAll,PyData.depth,ih.1,Bool.and_self,true_and]; have:=ih.2; (first|lia|omega)
theorem p5 (ns ms:List Int):PyData.eqvAll (ns.map .int) (ms.map .int) = decide (ns = ms):=by
  induction ns generalizing ms with
  | nil=>cases ms <;> simp [PyData.eqvAll]
  | cons n r ih =>
    cases ms with
    | nil=>simp [PyData.eqvAll]
    | cons m q =>
      rw [List.map_cons,List.map_cons,PyData.eqvAll,PyData.eqv,ih]
      by_cases h:n = m
      · subst h; simp
      · simp [h]
theorem ll (ns:List Int):SeqAt.shaped (toP (ai ns)) = true:=by
  have h:=qp ns
  unfold SeqAt.shaped ai
  rw [toP,f6,PyData.canLay0,PyData.depth,h.1,Bool.true_and]
  exact decide_eq_true (by have:=h.2; (first|lia|omega))
theorem r6 (ns ms:List Int):PyData.eqv (toP (ai ns)) (toP (ai ms)) = decide (ns = ms):=by
  unfold ai
  rw [toP,toP,f6,f6,PyData.eqv,p5]
theorem gq {H:Hp}:∀ ns:List Int,Reps H (ns.map .int) (ns.map V.int)
  | []=>bN
  | n :: r=>bA (bq n) (gq r)
def aL (ns ms:List Int):D:=.tup [ai ns,ai ms]
section
variable {X:Cx}
def l_ (lo:Int) (n:Nat):List Int:=(List.range n).map fun (i:Nat)=>lo + i
theorem gz:∀ {xs:List V} {us:List Value},xs.length = us.length → (∀ (i:Nat) x u,xs[i]? = some x → us[i]? = some u → a7 x u) → aZ xs us
  | [],[],_,_=>.nil
  | x :: xs,u :: us,hl,h=>.cons (h 0 x u rfl rfl) (gz (by simpa using hl) fun i x' u' e1 e2=>h (i + 1) x' u' (by simpa using e1) (by simpa using e2))
  | [],_ :: _,hl,_=>by simp at hl
  | _ :: _,[],hl,_=>by simp at hl
end
abbrev DSt:=List (Option D)
abbrev Own:=Addr → Option (Nat × List Nat)
mutual
def Sep (G H:Hp) (O:Own) (i:Nat):D → List Nat → V → Prop
  | .non,_,v=>v = .non
  | .bl b,_,v=>v = .bl b
  | .int n,_,v=>v = .int n
  | .str x,_,v=>v = .str x
  | .tup ds,π,v=>∃ a xs,v = .ref a ∧ G a = some (.tup xs) ∧ Seps G H O i ds 0 π xs
  | .lst ds,π,v=>∃ a xs,v = .ref a ∧ O a = some (i,π) ∧ H a = some (.lst xs) ∧ Seps G H O i ds 0 π xs
  | .dct,_,_=>False
  | .dic ks ds,π,v=>∃ a xs,v = .ref a ∧ O a = some (i,π) ∧ H a = some (.dK (ks.zip xs)) ∧ ks.length = ds.length ∧ Seps G H O i ds 0 π xs
  | .scr _ _,_,_=>False
  | .ext _,_,_=>False
def Seps (G H:Hp) (O:Own) (i:Nat):List D → Nat → List Nat → List V → Prop
  | [],_,_,xs=>xs = []
  | d :: ds,k,π,xs=>∃ v vs,xs = v :: vs ∧ Sep G H O i d (k :: π) v ∧ Seps G H O i ds (k + 1) π vs
end
def cK (G G':Hp):Prop:=∀ a xs,G a = some (.tup xs) → G' a = some (.tup xs)
theorem aJ.ts {G G':Hp} (h:aJ G G'):cK G G':=fun a xs e=>h a _ e
mutual
theorem Sep.map {G H G' H':Hp} {O O':Own} {i i':Nat} {f:List Nat → List Nat} (hG:cK G G') (hf:∀ k π,f (k :: π) = k :: f π) :
    ∀ (d:D) (π:List Nat) (v:V),(∀ a τ,O a = some (i,τ ++ π) → O' a = some (i',f (τ ++ π)) ∧ H' a = H a) → Sep G H O i d π v → Sep G' H' O' i' d (f π) v
  | .non,_,_,_,h=>by rw [Sep] at *; exact h
  | .bl b,_,_,_,h=>by rw [Sep] at *; exact h
  | .int n,_,_,_,h=>by rw [Sep] at *; exact h
  | .str x,_,_,_,h=>by rw [Sep] at *; exact h
  | .tup ds,π,v,hO,h=>by
    rw [Sep] at *
    obtain ⟨a,xs,h1,h2,h3⟩:=h
    exact ⟨a,xs,h1,hG _ _ h2,Seps.map hG hf ds 0 π xs (fun a τ _=>hO a τ) h3⟩
  | .lst ds,π,v,hO,h=>by
    rw [Sep] at *
    obtain ⟨a,xs,h1,h2,h3,h4⟩:=h
    have q:=hO a [] h2
    exact ⟨a,xs,h1,q.1,q.2.trans h3,Seps.map hG hf ds 0 π xs (fun a τ _=>hO a τ) h4⟩
  | .dic ks ds,π,v,hO,h=>by
    rw [Sep] at *
    obtain ⟨a,xs,h1,h2,h3,h5,h4⟩:=h
    have q:=hO a [] h2
    exact ⟨a,xs,h1,q.1,q.2.trans h3,h5,Seps.map hG hf ds 0 π xs (fun a τ _=>hO a τ) h4⟩
  | .dct,_,_,_,h=>by rw [Sep] at h; exact h.elim
  | .scr _ _,_,_,_,h=>by rw [Sep] at h; exact h.elim
  | .ext _,_,_,_,h=>by rw [Sep] at h; exact h.elim
theorem Seps.map {G H G' H':Hp} {O O':Own} {i i':Nat} {f:List Nat → List Nat} (hG:cK G G') (hf:∀ k π,f (k :: π) = k :: f π) :
    ∀ (ds:List D) (k:Nat) (π:List Nat) (xs:List V),(∀ a τ,τ ≠ [] → O a = some (i,τ ++ π) → O' a = some (i',f (τ ++ π)) ∧ H' a = H a) → Seps G H O i ds k π xs → Seps G' H' O' i' ds k (f π) xs
  | [],_,_,_,_,h=>by rw [Seps] at *; exact h
  | d :: ds,k,π,xs,hO,h=>by
    rw [Seps] at *
    obtain ⟨v,vs,h1,h2,h3⟩:=h
    refine ⟨v,vs,h1,?_,Seps.map hG hf ds (k + 1) π vs hO h3⟩
    rw [← hf]
    refine Sep.map hG hf d (k :: π) v (fun a τ e=>?_) h2
    have e' : τ ++ k :: π = (τ ++ [k]) ++ π:=by simp
    rw [e'] at e ⊢
    exact hO a (τ ++ [k]) (by simp) e
end
theorem Sep.keep {G H G' H':Hp} {O O':Own} {i i':Nat} {d:D} {π:List Nat} {v:V} (hG:cK G G') (hO:∀ a τ,O a = some (i,τ ++ π) → O' a = some (i',τ ++ π) ∧ H' a = H a) (h:Sep G H O i d π v):Sep G' H' O' i' d π v :=
  Sep.map (f:=id) hG (fun _ _=>rfl) d π v hO h
theorem Seps.keep {G H G' H':Hp} {O O':Own} {i i':Nat} {ds:List D} {k:Nat} {π:List Nat} {xs:List V} (hG:cK G G') (hO:∀ a τ,τ ≠ [] → O a = some (i,τ ++ π) → O' a = some (i',τ ++ π) ∧ H' a = H a) (h:Seps G H O i ds k π xs):Seps G' H' O' i' ds k π xs :=
  Seps.map (f:=id) hG (fun _ _=>rfl) ds k π xs hO h
mutual
theorem Sep.rep {G H G':Hp} {O:Own} {i:Nat} (hG:cK G G'):∀ (d:D) (π:List Nat) (v:V),(∀ a τ (o:HO),O a = some (i,τ ++ π) → H a = some o → G' a = some o) → Sep G H O i d π v → Rep G' d v
  | .non,_,_,_,h=>by rw [Sep] at h; rw [Rep]; exact h
  | .bl b,_,_,_,h=>by rw [Sep] at h; rw [Rep]; exact h
  | .int n,_,_,_,h=>by rw [Sep] at h; rw [Rep]; exact h
  | .str x,_,_,_,h=>by rw [Sep] at h; rw [Rep]; exact h
  | .tup ds,π,v,hO,h=>by
    rw [Sep] at h; rw [Rep]
    obtain ⟨a,xs,h1,h2,h3⟩:=h
    exact ⟨a,xs,h1,hG _ _ h2,Seps.rep hG ds 0 π xs (fun a τ ys _=>hO a τ ys) h3⟩
  | .lst ds,π,v,hO,h=>by
    rw [Sep] at h; rw [Rep]
    obtain ⟨a,xs,h1,h2,h3,h4⟩:=h
    exact ⟨a,xs,h1,hO a [] _ h2 h3,Seps.rep hG ds 0 π xs (fun a τ ys _=>hO a τ ys) h4⟩
  | .dic ks ds,π,v,hO,h=>by
    rw [Sep] at h; rw [Rep]
    obtain ⟨a,xs,h1,h2,h3,h5,h4⟩:=h
    exact ⟨a,xs,h1,hO a [] _ h2 h3,h5,Seps.rep hG ds 0 π xs (fun a τ ys _=>hO a τ ys) h4⟩
  | .dct,_,_,_,h=>by rw [Sep] at h; exact h.elim
  | .scr _ _,_,_,_,h=>by rw [Sep] at h; exact h.elim
  | .ext _,_,_,_,h=>by rw [Sep] at h; exact h.elim
theorem Seps.rep {G H G':Hp} {O:Own} {i:Nat} (hG:cK G G'):∀ (ds:List D) (k:Nat) (π:List Nat) (xs:List V),(∀ a τ (o:HO),τ ≠ [] → O a = some (i,τ ++ π) → H a = some o → G' a = some o) → Seps G H O i ds k π xs → Reps G' ds xs
  | [],_,_,_,_,h=>by rw [Seps] at h; rw [Reps]; exact h
  | d :: ds,k,π,xs,hO,h=>by
    rw [Seps] at h; rw [Reps]
    obtain ⟨v,vs,h1,h2,h3⟩:=h
    refine ⟨v,vs,h1,Sep.rep hG d (k :: π) v (fun a τ ys e q=>?_) h2,Seps.rep hG ds (k + 1) π vs hO h3⟩
    have e' : τ ++ k :: π = (τ ++ [k]) ++ π:=by simp
    rw [e'] at e
    exact hO a (τ ++ [k]) ys (by simp) e q
end
mutual
def imm:D → Bool
  | .tup ds=>imms ds
  | .lst _=>false
  | .dct=>false
  | .dic _ _=>false
  | .scr _ _=>false
  | .ext _=>false
  | _=>true
def imms:List D → Bool
  | []=>true
  | d :: ds=>imm d && imms ds
end
mutual
theorem Rep.sep {G H:Hp} {O:Own} {i:Nat}:∀ (d:D) (π:List Nat) (v:V),imm d = true → Rep G d v → Sep G H O i d π v
  | .non,_,_,_,h=>by rw [Rep] at h; rw [Sep]; exact h
  | .bl b,_,_,_,h=>by rw [Rep] at h; rw [Sep]; exact h
  | .int n,_,_,_,h=>by rw [Rep] at h; rw [Sep]; exact h
  | .str x,_,_,_,h=>by rw [Rep] at h; rw [Sep]; exact h
  | .tup ds,π,v,hi,h=>by
    rw [Rep] at h; rw [Sep]
    obtain ⟨a,xs,h1,h2,h3⟩:=h
    exact ⟨a,xs,h1,h2,Reps.sep ds 0 π xs (by rw [imm] at hi; exact hi) h3⟩
  | .lst ds,_,_,hi,_=>by rw [imm] at hi; cases hi
  | .dct,_,_,hi,_=>by rw [imm] at hi; cases hi
  | .dic _ _,_,_,hi,_=>by rw [imm] at hi; cases hi
  | .scr _ _,_,_,hi,_=>by rw [imm] at hi; cases hi
  | .ext _,_,_,hi,_=>by rw [imm] at hi; cases hi
theorem Reps.sep {G H:Hp} {O:Own} {i:Nat}:∀ (ds:List D) (k:Nat) (π:List Nat) (xs:List V),imms ds = true → Reps G ds xs → Seps G H O i ds k π xs
  | [],_,_,_,_,h=>by rw [Reps] at h; rw [Seps]; exact h
  | d :: ds,k,π,xs,hi,h=>by
    rw [Reps] at h; rw [Seps]
    rw [imms,Bool.and_eq_true] at hi
    obtain ⟨v,vs,h1,h2,h3⟩:=h
    exact ⟨v,vs,h1,Rep.sep d (k :: π) v hi.1 h2,Reps.sep ds (k + 1) π vs hi.2 h3⟩
end
mutual
theorem Sep.imm {G H:Hp} {O:Own} {i:Nat}:∀ (d:D) (π:List Nat) (v:V),L2.imm d = true → Sep G H O i d π v → Rep G d v
  | .non,_,_,_,h=>by rw [Sep] at h; rw [Rep]; exact h
  | .bl b,_,_,_,h=>by rw [Sep] at h; rw [Rep]; exact h
  | .int n,_,_,_,h=>by rw [Sep] at h; rw [Rep]; exact h
  | .str x,_,_,_,h=>by rw [Sep] at h; rw [Rep]; exact h
  | .tup ds,π,v,hi,h=>by
    rw [Sep] at h; rw [Rep]
    obtain ⟨a,xs,h1,h2,h3⟩:=h
    exact ⟨a,xs,h1,h2,Seps.imm ds 0 π xs (by rw [L2.imm] at hi; exact hi) h3⟩
  | .lst ds,_,_,hi,_=>by rw [L2.imm] at hi; cases hi
  | .dct,_,_,hi,_=>by rw [L2.imm] at hi; cases hi
  | .dic _ _,_,_,hi,_=>by rw [L2.imm] at hi; cases hi
  | .scr _ _,_,_,hi,_=>by rw [L2.imm] at hi; cases hi
  | .ext _,_,_,hi,_=>by rw [L2.imm] at hi; cases hi
theorem Seps.imm {G H:Hp} {O:Own} {i:Nat}:∀ (ds:List D) (k:Nat) (π:List Nat) (xs:List V),imms ds = true → Seps G H O i ds k π xs → Reps G ds xs
  | [],_,_,_,_,h=>by rw [Seps] at h; rw [Reps]; exact h
  | d :: ds,k,π,xs,hi,h=>by
    rw [Seps] at h; rw [Reps]
    rw [imms,Bool.and_eq_true] at hi
    obtain ⟨v,vs,h1,h2,h3⟩:=h
    exact ⟨v,vs,h1,Sep.imm d (k :: π) v hi.1 h2,Seps.imm ds (k + 1) π vs hi.2 h3⟩
end
mutual
theorem Rep.imms {G G':Hp} (hG:cK G G'):∀ (d:D) (v:V),L2.imm d = true → Rep G d v → Rep G' d v
  | .non,_,_,h=>by rw [Rep] at *; exact h
  | .bl b,_,_,h=>by rw [Rep] at *; exact h
  | .int n,_,_,h=>by rw [Rep] at *; exact h
  | .str x,_,_,h=>by rw [Rep] at *; exact h
  | .tup ds,v,hi,h=>by
    rw [Rep] at *
    obtain ⟨a,xs,h1,h2,h3⟩:=h
    exact ⟨a,xs,h1,hG _ _ h2,Reps.imms hG ds xs (by rw [L2.imm] at hi; exact hi) h3⟩
  | .lst ds,_,hi,_=>by rw [L2.imm] at hi; cases hi
  | .dct,_,hi,_=>by rw [L2.imm] at hi; cases hi
  | .dic _ _,_,hi,_=>by rw [L2.imm] at hi; cases hi
  | .scr _ _,_,hi,_=>by rw [L2.imm] at hi; cases hi
  | .ext _,_,hi,_=>by rw [L2.imm] at hi; cases hi
theorem Reps.imms {G G':Hp} (hG:cK G G'):∀ (ds:List D) (xs:List V),L2.imms ds = true → Reps G ds xs → Reps G' ds xs
  | [],_,_,h=>by rw [Reps] at *; exact h
  | d :: ds,xs,hi,h=>by
    rw [Reps] at *
    rw [L2.imms,Bool.and_eq_true] at hi
    obtain ⟨v,vs,h1,h2,h3⟩:=h
    exact ⟨v,vs,h1,Rep.imms hG d v hi.1 h2,Reps.imms hG ds vs hi.2 h3⟩
end
theorem Seps.length {G H:Hp} {O:Own} {i:Nat}:∀ {ds:List D} {k:Nat} {π:List Nat} {xs:List V},Seps G H O i ds k π xs → xs.length = ds.length
  | [],_,_,_,h=>by rw [Seps] at h; subst h; rfl
  | d :: ds,k,π,xs,h=>by
    rw [Seps] at h
    obtain ⟨v,vs,rfl,_,h3⟩:=h
    simp [Seps.length h3]
abbrev WrO:=List V ⊕ List (Key × V)
def WrO.ho:WrO → HO
  | .inl xs=>.lst xs
  | .inr kvs=>.dK kvs
theorem WrO.ne {m:WrO} {xs:List V} (h:m.ho = .tup xs):False:=by cases m <;> cases h
structure Ctx where
  G:Hp
  H:Hp
  O:Own
  mu:List (Option V)
  np:Nat
def bX (G H:Hp) (O:Own):List (D × V) → Prop
  | []=>True
  | (d,v) :: r=>Sep G H O (2 * r.length + 1) d [] v ∧ bX G H O r
def Nw (C:Ctx) (a:Addr) (l:Nat):Prop:=C.H a = none ∨ ∃ π,C.O a = some (l,π)
structure RO (C:Ctx) (ow:List Bool) (G:Hp) (ρ:DSt) (σ:St) (H:Hp) (pd:List (D × V)) (O:Own):Prop where
  len : ρ.length = σ.length
  gh:aJ G H
  g0:aJ C.G G
  gn:∀ a o,G a = some o → C.G a = some o ∨ C.H a = none
  og:∀ a l,O a = some l → G a = none ∧ (∃ xs:WrO,H a = some xs.ho) ∧ Nw C a l.1
  cok:∀ a l π,C.O a = some (l,π) → (∃ (i:Nat) (v:V),l = 2 * i ∧ C.mu[i]? = some (some v)) ∨ ∃ j,l = 2 * j + 1 ∧ j < C.np
  fr:∀ a o,C.H a = some o → C.O a = none → H a = some o
  al:∀ a,H a = none → C.H a = none
  mp:∀ (i:Nat) v,C.mu[i]? = some (some v) → σ[i]? = some (some v)
  sl:∀ (i:Nat) d,ρ[i]? = some (some d) → ∃ v,σ[i]? = some (some v) ∧ if ow[i]? = some true then Sep G H O (2 * i) d [] v else Rep G d v
  pn:bX G H O pd
  np:C.np ≤ pd.length
def R (C:Ctx) (ow:List Bool) (G:Hp) (ρ:DSt) (σ:St) (H:Hp) (pd:List (D × V)):Prop:=∃ O,RO C ow G ρ σ H pd O
theorem bX.keep {G H G' H':Hp} {O O':Own} (hG:cK G G'):∀ {pd:List (D × V)},(∀ a j π,j < pd.length → O a = some (2 * j + 1,π) → O' a = some (2 * j + 1,π) ∧ H' a = H a) → bX G H O pd → bX G' H' O' pd
  | [],_,_=>trivial
  | (d,v) :: r,hO,⟨h1,h2⟩=>⟨h1.keep hG fun a τ e=>hO a r.length _ (by simp) e,bX.keep hG (fun a j π hj=>hO a j π (by simp; exact tY hj)) h2⟩
section
variable {C:Ctx} {ow:List Bool} {G:Hp} {ρ:DSt} {σ:St} {H:Hp} {pd:List (D × V)} {O:Own}
theorem RO.new (h:RO C ow G ρ σ H pd O) {p:Addr} (hp:H p = none) (o:HO):RO C ow (upd G p o) ρ σ (upd H p o) pd O ∧ aJ G (upd G p o):=by
  have gp:G p = none:=by
    cases e:G p with
    | none=>rfl
    | some z=>rw [h.gh _ _ e] at hp; cases hp
  have sG:=rd gp o
  have ne:∀ a l,O a = some l → a ≠ p:=fun a l e z=>by
    obtain ⟨_,⟨xs,q⟩,_⟩:=h.og a l e
    rw [z,hp] at q; cases q
  refine ⟨⟨h.len,?_,fun a u e=>sG _ _ (h.g0 a u e),?_,?_,h.cok,?_,?_,h.mp,?_,?_,h.np⟩,sG⟩
  · intro a u e
    by_cases z:a = p
    · subst z; rw [aH] at e ⊢; exact e
    · rw [am z] at e ⊢; exact h.gh _ _ e
  · intro a u e
    by_cases z:a = p
    · subst z; exact .inr (h.al _ hp)
    · rw [am z] at e; exact h.gn a u e
  · intro a l e
    have z:=ne a l e
    rw [am z,am z]
    exact h.og a l e
  · intro a u e n
    rw [am (au (h.fr a u e n) hp)]
    exact h.fr a u e n
  · intro a e
    by_cases z:a = p
    · subst z; rw [aH] at e; cases e
    · rw [am z] at e; exact h.al a e
  · intro i d e
    obtain ⟨v,h1,h2⟩:=h.sl i d e
    refine ⟨v,h1,?_⟩
    split at h2
    · rename_i c; rw [if_pos c]; exact h2.keep sG.ts fun a τ q=>⟨q,am (ne a _ q)⟩
    · rename_i c; rw [if_neg c]; exact h2.mono sG
  · exact bX.keep sG.ts (fun a j π _ q=>⟨q,am (ne a _ q)⟩) h.pn
theorem RO.newL (h:RO C ow G ρ σ H pd O) {p:Addr} (hp:H p = none) {xs:List V} {ds:List D} (hi:imms ds = true) (hr:Reps G ds xs) :
    R C ow G ρ σ (upd H p (.lst xs)) ((.lst ds,.ref p) :: pd):=by
  have gp:G p = none:=by
    cases e:G p with
    | none=>rfl
    | some z=>rw [h.gh _ _ e] at hp; cases hp
  have ne:∀ a l,O a = some l → a ≠ p:=fun a l e z=>by
    obtain ⟨_,⟨xs,q⟩,_⟩:=h.og a l e
    rw [z,hp] at q; cases q
  let O':Own:=fun a=>if a = p then some (2 * pd.length + 1,[]) else O a
  have old:∀ a l,O a = some l → O' a = some l:=fun a l e=>by
    show (if a = p then _ else _) = _
    rw [if_neg (ne a _ e),e]
  refine ⟨O',h.len,?_,h.g0,h.gn,?_,h.cok,?_,?_,h.mp,?_,⟨?_,?_⟩,Nat.le_succ_of_le h.np⟩
  · intro a u e
    rw [am (fun z=>by rw [z,gp] at e; cases e)]
    exact h.gh _ _ e
  · intro a l e
    by_cases z:a = p
    · subst z; exact ⟨gp,⟨.inl xs,aH⟩,.inl (h.al _ hp)⟩
    · rw [am z]
      change (if a = p then _ else _) = _ at e
      rw [if_neg z] at e
      exact h.og a _ e
  · intro a u e n
    rw [am (au (h.fr a u e n) hp)]
    exact h.fr a u e n
  · intro a e
    by_cases z:a = p
    · subst z; rw [aH] at e; cases e
    · rw [am z] at e; exact h.al a e
  · intro i d e
    obtain ⟨v,h1,h2⟩:=h.sl i d e
    refine ⟨v,h1,?_⟩
    split at h2
    · rename_i c; rw [if_pos c]; exact h2.keep (fun _ _ z=>z) fun a τ q=>⟨old a _ q,am (ne a _ q)⟩
    · rename_i c; rw [if_neg c]; exact h2
  · rw [Sep]
    exact ⟨p,xs,rfl,by show (if p = p then _ else _) = _; rw [if_pos rfl],aH,hr.sep ds 0 [] xs hi⟩
  · exact bX.keep (fun _ _ z=>z) (fun a j π hj q=>⟨old a _ q,am (ne a _ q)⟩) h.pn
end
theorem Seps.snoc {G H:Hp} {O:Own} {i:Nat} {d:D} {v:V}:∀ {ds:List D} {k:Nat} {π:List Nat} {xs:List V},Seps G H O i ds k π xs → Sep G H O i d ((k + ds.length) :: π) v → Seps G H O i (ds ++ [d]) k π (xs ++ [v])
  | [],k,π,xs,h,hd=>by rw [Seps] at h; subst h; show Seps _ _ _ _ [d] _ _ [v]; rw [Seps]; exact ⟨v,[],rfl,by simpa using hd,by rw [Seps]⟩
  | e :: ds,k,π,xs,h,hd=>by
    rw [Seps] at h
    obtain ⟨u,us,rfl,h2,h3⟩:=h
    show Seps _ _ _ _ (e :: (ds ++ [d])) _ _ (u :: (us ++ [v]))
    rw [Seps]
    refine ⟨u,us ++ [v],rfl,h2,Seps.snoc h3 ?_⟩
    have:k + 1 + ds.length = k + (e :: ds).length:=by simp; exact kD
    rw [this]; exact hd
theorem Seps.set {G H:Hp} {O:Own} {i:Nat} {d:D} {v:V}:∀ {ds:List D} {k:Nat} {π:List Nat} {xs:List V} {j:Nat},Seps G H O i ds k π xs → Sep G H O i d ((k + j) :: π) v → Seps G H O i (ds.set j d) k π (xs.set j v)
  | [],k,π,xs,j,h,hd=>by rw [Seps] at h; subst h; simp; rw [Seps]
  | e :: ds,k,π,xs,0,h,hd=>by
    rw [Seps] at h
    obtain ⟨u,us,rfl,h2,h3⟩:=h
    simp only [List.set_cons_zero]; rw [Seps]
    exact ⟨v,us,rfl,by simpa using hd,h3⟩
  | e :: ds,k,π,xs,j + 1,h,hd=>by
    rw [Seps] at h
    obtain ⟨u,us,rfl,h2,h3⟩:=h
    simp only [List.set_cons_succ]; rw [Seps]
    refine ⟨u,_,rfl,h2,Seps.set h3 ?_⟩
    have:k + 1 + j = k + (j + 1):=by exact kD
    rw [this]; exact hd
theorem Seps.at {G H:Hp} {O:Own} {i:Nat} {d:D}:∀ {ds:List D} {k:Nat} {π:List Nat} {xs:List V} {j:Nat},Seps G H O i ds k π xs → ds[j]? = some d → ∃ v,xs[j]? = some v ∧ Sep G H O i d ((k + j) :: π) v
  | [],k,π,xs,j,h,e=>by simp at e
  | e :: ds,k,π,xs,0,h,q=>by
    rw [Seps] at h
    obtain ⟨u,us,rfl,h2,h3⟩:=h
    simp at q; subst q
    exact ⟨u,rfl,by simpa using h2⟩
  | e :: ds,k,π,xs,j + 1,h,q=>by
    rw [Seps] at h
    obtain ⟨u,us,rfl,h2,h3⟩:=h
    obtain ⟨v,h4,h5⟩:=Seps.at (j:=j) h3 (by simpa using q)
    refine ⟨v,by simpa using h4,?_⟩
    have:k + 1 + j = k + (j + 1):=by exact kD
    rw [← this]; exact h5
theorem Seps.front {G H:Hp} {O:Own} {i:Nat}:∀ {ds:List D} {k:Nat} {π:List Nat} {xs:List V},Seps G H O i ds k π xs → Seps G H O i ds.dropLast k π xs.dropLast
  | [],k,π,xs,h=>by rw [Seps] at h; subst h; show Seps _ _ _ _ [] _ _ []; rw [Seps]
  | [e],k,π,xs,h=>by
    rw [Seps] at h
    obtain ⟨u,us,rfl,h2,h3⟩:=h
    rw [Seps] at h3; subst h3
    show Seps _ _ _ _ [] _ _ []; rw [Seps]
  | e :: e' :: ds,k,π,xs,h=>by
    rw [Seps] at h
    obtain ⟨u,us,rfl,h2,h3⟩:=h
    have h3':=h3
    rw [Seps] at h3
    obtain ⟨u',us',rfl,_,_⟩:=h3
    show Seps _ _ _ _ (e :: (e' :: ds).dropLast) _ _ (u :: (u' :: us').dropLast)
    rw [Seps]
    exact ⟨u,_,rfl,h2,Seps.front h3'⟩
section
variable {C:Ctx} {ow:List Bool} {G:Hp} {ρ:DSt} {σ:St} {H:Hp} {pd:List (D × V)} {O:Own}
theorem dE {α:Type} {l:List (Option α)} {i j:Nat} {x:Option α} {d : α} (h:(l.set i x)[j]? = some (some d)):(j = i ∧ x = some d) ∨ (j ≠ i ∧ l[j]? = some (some d)):=by
  rw [List.getElem?_set] at h
  by_cases e:i = j
  · rw [if_pos e] at h
    split at h
    · exact .inl ⟨e.symm,Option.some.inj h⟩
    · cases h
  · rw [if_neg e] at h; exact .inr ⟨fun z=>e z.symm,h⟩
theorem d9 {α:Type} {l:List (Option α)} {i:Nat} {x:Option α} (h:l[i]? = some x):i < l.length:=(List.getElem?_eq_some_iff.mp h).1
theorem RO.setS (h:RO C ow G ρ σ H pd O) {i:Nat} {d:D} {v:V} (hi:ow[i]? ≠ some true) (hm:∀ v,C.mu[i]? ≠ some (some v)) (r:Rep G d v):RO C ow G (ρ.set i (some d)) (σ.set i (some v)) H pd O:=by
  refine ⟨by simp [h.len],h.gh,h.g0,h.gn,h.og,h.cok,h.fr,h.al,?_,?_,h.pn,h.np⟩
  · intro j u e
    have:i ≠ j:=fun z=>hm u (z ▸ e)
    rw [List.getElem?_set_ne this]
    exact h.mp j u e
  · intro j e q
    rcases dE q with ⟨rfl,z⟩ | ⟨z,q'⟩
    · cases z
      have hl:j < σ.length:=by have:=d9 q; rw [List.length_set,h.len] at this; exact this
      exact ⟨v,by rw [List.getElem?_set_self hl],by rw [if_neg hi]; exact r⟩
    · obtain ⟨u,h1,h2⟩:=h.sl j e q'
      exact ⟨u,by rw [List.getElem?_set_ne (Ne.symm z)]; exact h1,h2⟩
def lab (f:Nat → List Nat → Nat × List Nat) (O:Own):Own:=fun a=>(O a).map fun l=>f l.1 l.2
theorem bZ {f:Nat → List Nat → Nat × List Nat} {a:Addr} {l:Nat} {π:List Nat} (h:O a = some (l,π)):lab f O a = some (f l π):=by unfold lab; rw [h]; rfl
theorem iu {f:Nat → List Nat → Nat × List Nat} {a:Addr} {m:Nat × List Nat} (h:lab f O a = some m):∃ l π,O a = some (l,π) ∧ m = f l π:=by
  unfold lab at h
  cases e:O a with
  | none=>rw [e] at h; cases h
  | some l=>rw [e] at h; exact ⟨l.1,l.2,rfl,(Option.some.inj h).symm⟩
theorem cj {i j:Nat} : 2 * i ≠ 2 * j + 1:=by exact zo339
theorem RO.setO {d:D} {v:V} (h:RO C ow G ρ σ H ((d,v) :: pd) O) {i:Nat} (hi:ow[i]? = some true) (hm:∀ v,C.mu[i]? ≠ some (some v)) (hn:C.np ≤ pd.length) :
    R C ow G (ρ.set i (some d)) (σ.set i (some v)) H pd:=by
  refine ⟨lab (fun l π=>if l = 2 * pd.length + 1 then (2 * i,π) else (l,π)) O,by simp [h.len],h.gh,h.g0,h.gn,?_,h.cok,h.fr,h.al,?_,?_,?_,hn⟩
  · intro a m e
    obtain ⟨l,π,e1,rfl⟩:=iu e
    obtain ⟨q1,q2,q3⟩:=h.og a _ e1
    refine ⟨q1,q2,?_⟩
    try dsimp only
    split
    · rename_i z
      rcases q3 with q3 | ⟨_,q3⟩
      · exact .inl q3
      · rcases h.cok _ _ _ q3 with ⟨k,_,q4,_⟩ | ⟨k,q4,q5⟩
        · exact absurd (q4.symm.trans z) cj
        · (first|lia|omega)
    · exact q3
  · intro j u e
    have:i ≠ j:=fun z=>hm u (z ▸ e)
    rw [List.getElem?_set_ne this]
    exact h.mp j u e
  · intro j e q
    rcases dE q with ⟨rfl,z⟩ | ⟨z,q'⟩
    · cases z
      have hl:j < σ.length:=by have:=d9 q; rw [List.length_set,h.len] at this; exact this
      refine ⟨v,by rw [List.getElem?_set_self hl],?_⟩
      rw [if_pos hi]
      exact h.pn.1.keep (fun _ _ z=>z) fun a τ q=>⟨by rw [bZ q,if_pos rfl],rfl⟩
    · obtain ⟨u,h1,h2⟩:=h.sl j e q'
      refine ⟨u,by rw [List.getElem?_set_ne (Ne.symm z)]; exact h1,?_⟩
      split at h2
      · rename_i c; rw [if_pos c]; exact h2.keep (fun _ _ z=>z) fun a τ q=>⟨by rw [bZ q,if_neg cj],rfl⟩
      · rename_i c; rw [if_neg c]; exact h2
  · exact bX.keep (fun _ _ z=>z) (fun a j π hj q=>⟨by rw [bZ q,if_neg (by exact zo65 hj)],rfl⟩) h.pn.2
theorem RO.move (h:RO C ow G ρ σ H pd O) {i:Nat} {d:D} (e : ρ[i]? = some (some d)) (hi:ow[i]? = some true) (hm:∀ v,C.mu[i]? ≠ some (some v)) :
    ∃ v,σ[i]? = some (some v) ∧ R C ow G (ρ.set i none) σ H ((d,v) :: pd):=by
  obtain ⟨v,hv,s⟩:=h.sl i d e
  rw [if_pos hi] at s
  refine ⟨v,hv,lab (fun l π=>if l = 2 * i then (2 * pd.length + 1,π) else (l,π)) O,by simp [h.len],h.gh,h.g0,h.gn,?_,h.cok,h.fr,h.al,h.mp,?_,⟨?_,?_⟩,Nat.le_succ_of_le h.np⟩
  · intro a m e
    obtain ⟨l,π,e1,rfl⟩:=iu e
    obtain ⟨q1,q2,q3⟩:=h.og a _ e1
    refine ⟨q1,q2,?_⟩
    try dsimp only
    split
    · rename_i z
      rcases q3 with q3 | ⟨_,q3⟩
      · exact .inl q3
      · rcases h.cok _ _ _ q3 with ⟨k,u,q4,q5⟩ | ⟨k,q4,_⟩
        · have:k = i:=by have:=q4.symm.trans z; (first|lia|omega)
          exact absurd (this ▸ q5) (hm u)
        · (first|lia|omega)
    · exact q3
  · intro j e q
    rcases dE q with ⟨rfl,z⟩ | ⟨z,q'⟩
    · cases z
    · obtain ⟨u,h1,h2⟩:=h.sl j e q'
      refine ⟨u,h1,?_⟩
      split at h2
      · rename_i c; rw [if_pos c]; exact h2.keep (fun _ _ z=>z) fun a τ q=>⟨by rw [bZ q,if_neg (by exact zo85 z)],rfl⟩
      · rename_i c; rw [if_neg c]; exact h2
  · exact s.keep (fun _ _ z=>z) fun a τ q=>⟨by rw [bZ q,if_pos rfl],rfl⟩
  · exact bX.keep (fun _ _ z=>z) (fun a j π hj q=>⟨by rw [bZ q,if_neg (fun z=>cj z.symm)],rfl⟩) h.pn
def hasL (O:Own) (l:Nat) (a:Addr):Bool:=match O a with
  | some m=>m.1 == l
  | none=>false
theorem fZ {l:Nat} {a:Addr}:hasL O l a = true ↔ ∃ π,O a = some (l,π):=by
  unfold hasL
  cases e:O a with
  | none=>simp
  | some m=>obtain ⟨m1,m2⟩:=m; simp
theorem RO.share {d:D} {v:V} (h:RO C ow G ρ σ H ((d,v) :: pd) O) (hn:C.np ≤ pd.length):∃ G',aJ G G' ∧ R C ow G' ρ σ H pd ∧ Rep G' d v:=by
  let l₀:=2 * pd.length + 1
  let G':Hp:=fun a=>if hasL O l₀ a = true then H a else G a
  have sG:aJ G G':=fun a o e=>by
    show (if _ then _ else _) = _
    split
    · exact h.gh _ _ e
    · exact e
  have inH:∀ a τ (o:HO),O a = some (l₀,τ) → H a = some o → G' a = some o:=fun a τ xs q e=>by
    show (if _ then _ else _) = _
    rw [if_pos (fZ.mpr ⟨_,q⟩)]; exact e
  refine ⟨G',sG,⟨fun a=>if hasL O l₀ a = true then none else O a,h.len,?_,fun a o e=>sG _ _ (h.g0 _ _ e),?_,?_,h.cok,h.fr,h.al,h.mp,?_,?_,hn⟩,h.pn.1.rep sG.ts d [] v (fun a τ xs q e=>inH a _ xs q e)⟩
  · intro a o e
    change (if _ then _ else _) = _ at e
    split at e
    · exact e
    · exact h.gh _ _ e
  · intro a o e
    change (if _ then _ else _) = _ at e
    split at e
    · rename_i c
      obtain ⟨π,q⟩:=fZ.mp c
      obtain ⟨_,_,q3⟩:=h.og a _ q
      rcases q3 with q3 | ⟨_,q3⟩
      · exact .inr q3
      · rcases h.cok _ _ _ q3 with ⟨k,_,q4,_⟩ | ⟨k,q4,q5⟩
        · exact absurd q4.symm cj
        · have q4' : 2 * pd.length + 1 = 2 * k + 1:=q4
          (first|lia|omega)
    · exact h.gn a o e
  · intro a l e
    try dsimp only at e
    split at e
    · cases e
    · rename_i c
      obtain ⟨q1,q2,q3⟩:=h.og a l e
      exact ⟨by show (if _ then _ else _) = _; rw [if_neg c]; exact q1,q2,q3⟩
  · intro j e q
    obtain ⟨u,h1,h2⟩:=h.sl j e q
    refine ⟨u,h1,?_⟩
    split at h2
    · rename_i c; rw [if_pos c]
      refine h2.keep sG.ts fun a τ q=>⟨?_,rfl⟩
      rw [if_neg,q]
      intro z
      obtain ⟨π,z⟩:=fZ.mp z
      rw [q] at z
      have:=(Prod.mk.inj (Option.some.inj z)).1
      (first|lia|omega)
    · rename_i c; rw [if_neg c]; exact h2.mono sG
  · refine bX.keep sG.ts (fun a j π hj q=>⟨?_,rfl⟩) h.pn.2
    rw [if_neg,q]
    intro z
    obtain ⟨π,z⟩:=fZ.mp z
    rw [q] at z
    have:=(Prod.mk.inj (Option.some.inj z)).1
    (first|lia|omega)
theorem RO.write (h:RO C ow G ρ σ H pd O) {i:Nat} {ds:List D} (e : ρ[i]? = some (some (.lst ds))) (hi:ow[i]? = some true) :
    ∃ a xs,σ[i]? = some (some (.ref a)) ∧ H a = some (.lst xs) ∧ Seps G H O (2 * i) ds 0 [] xs ∧
      ∀ ds' xs',Seps G H O (2 * i) ds' 0 [] xs' → RO C ow G (ρ.set i (some (.lst ds'))) σ (upd H a (.lst xs')) pd O:=by
  obtain ⟨v,hv,s⟩:=h.sl i _ e
  rw [if_pos hi,Sep] at s
  obtain ⟨a,xs,rfl,hO,hH,hs⟩:=s
  refine ⟨a,xs,hv,hH,hs,fun ds' xs' hs'=>?_⟩
  obtain ⟨g0,_,nw⟩:=h.og a _ hO
  have ne:∀ b l π,O b = some (l,π) → (l ≠ 2 * i ∨ π ≠ []) → b ≠ a:=fun b l π q n z=>by
    subst z
    rw [hO] at q
    obtain ⟨q1,q2⟩:=Prod.mk.inj (Option.some.inj q)
    rcases n with n | n
    · exact n q1.symm
    · exact n q2.symm
  refine ⟨by simp [h.len],?_,h.g0,h.gn,?_,h.cok,?_,?_,h.mp,?_,?_,h.np⟩
  · intro b o q
    rw [am (fun z=>by rw [z,g0] at q; cases q)]; exact h.gh _ _ q
  · intro b l q
    obtain ⟨q1,⟨ys,q2⟩,q3⟩:=h.og b l q
    refine ⟨q1,?_,q3⟩
    by_cases z:b = a
    · subst z; exact ⟨.inl _,aH⟩
    · rw [am z]; exact ⟨ys,q2⟩
  · intro b o q n
    by_cases z:b = a
    · subst z
      rcases nw with nw | ⟨_,nw⟩
      · rw [nw] at q; cases q
      · rw [nw] at n; cases n
    · rw [am z]; exact h.fr b o q n
  · intro b q
    by_cases z:b = a
    · subst z; rw [aH] at q; cases q
    · rw [am z] at q; exact h.al b q
  · intro j u q
    rcases dE q with ⟨rfl,z⟩ | ⟨z,q'⟩
    · cases z
      refine ⟨_,hv,?_⟩
      rw [if_pos hi,Sep]
      exact ⟨a,xs',rfl,hO,aH,hs'.keep (fun _ _ z=>z) fun b τ hτ q=>⟨q,am (ne b _ _ q (.inr (by simpa using hτ)))⟩⟩
    · obtain ⟨w,h1,h2⟩:=h.sl j u q'
      refine ⟨w,h1,?_⟩
      split at h2
      · rename_i c; rw [if_pos c]; exact h2.keep (fun _ _ z=>z) fun b τ q=>⟨q,am (ne b _ _ q (.inl (by exact zo44 z)))⟩
      · rename_i c; rw [if_neg c]; exact h2
  · exact bX.keep (fun _ _ z=>z) (fun b j π hj q=>⟨q,am (ne b _ _ q (.inl (fun z=>cj z.symm)))⟩) h.pn
theorem RO.join {d:D} {v:V} (h:RO C ow G ρ σ H ((d,v) :: pd) O) (i n:Nat) (hn:C.np ≤ pd.length) :
    ∃ O',RO C ow G ρ σ H pd O' ∧ Sep G H O' (2 * i) d [n] v ∧ ∀ (l:Nat) ds k π xs,l ≠ 2 * pd.length + 1 → Seps G H O l ds k π xs → Seps G H O' l ds k π xs:=by
  refine ⟨lab (fun l π=>if l = 2 * pd.length + 1 then (2 * i,π ++ [n]) else (l,π)) O,⟨h.len,h.gh,h.g0,h.gn,?_,h.cok,h.fr,h.al,h.mp,?_,?_,hn⟩,?_,?_⟩
  · intro a m e
    obtain ⟨l,π,e1,rfl⟩:=iu e
    obtain ⟨q1,q2,q3⟩:=h.og a _ e1
    refine ⟨q1,q2,?_⟩
    try dsimp only
    split
    · rename_i z
      rcases q3 with q3 | ⟨_,q3⟩
      · exact .inl q3
      · rcases h.cok _ _ _ q3 with ⟨k,_,q4,_⟩ | ⟨k,q4,q5⟩
        · exact absurd (q4.symm.trans z) cj
        · (first|lia|omega)
    · exact q3
  · intro j e q
    obtain ⟨u,h1,h2⟩:=h.sl j e q
    refine ⟨u,h1,?_⟩
    split at h2
    · rename_i c; rw [if_pos c]; exact h2.keep (fun _ _ z=>z) fun a τ q=>⟨by rw [bZ q,if_neg cj],rfl⟩
    · rename_i c; rw [if_neg c]; exact h2
  · exact bX.keep (fun _ _ z=>z) (fun a j π hj q=>⟨by rw [bZ q,if_neg (by exact zo65 hj)],rfl⟩) h.pn.2
  · exact Sep.map (f:=fun π=>π ++ [n]) (fun _ _ z=>z) (fun _ _=>rfl) d [] v (fun a τ q=>⟨by rw [bZ q,if_pos rfl],rfl⟩) h.pn.1
  · intro l ds k π xs hl hs
    exact hs.keep (fun _ _ z=>z) fun a τ _ q=>⟨by rw [bZ q,if_neg hl],rfl⟩
end
def bor (js:List Nat) (ow:List Bool):List Bool:=ow.mapIdx fun j b=>b && !js.contains j
theorem cV {js:List Nat} {ow:List Bool} {j:Nat}:(bor js ow)[j]? = some true ↔ ow[j]? = some true ∧ js.contains j = false:=by
  unfold bor
  rw [List.getElem?_mapIdx]
  cases e:ow[j]? with
  | none=>simp
  | some b=>cases b <;> simp
def mO (ρ:DSt) (js:List Nat) (n l:Nat):Bool:=if l % 2 = 0 then (match ρ[l / 2]? with | some (some _)=>!js.contains (l / 2) | _=>false) else decide (l / 2 < n)
def iF (js:List Nat) (l:Nat):Bool:=decide (l % 2 = 0) && js.contains (l / 2)
def dl (f:Nat → Bool) (O:Own):Own:=fun a=>match O a with
  | some m=>if f m.1 = true then some m else none
  | none=>none
theorem fk {f:Nat → Bool} {O:Own} {a:Addr} {m:Nat × List Nat} (h:O a = some m) (hf:f m.1 = true):dl f O a = some m:=by unfold dl; rw [h]; show (if _ then _ else _) = _; rw [if_pos hf]
theorem dG {f:Nat → Bool} {O:Own} {a:Addr} {m:Nat × List Nat} (h:dl f O a = some m):O a = some m ∧ f m.1 = true:=by
  unfold dl at h
  cases e:O a with
  | none=>rw [e] at h; cases h
  | some n =>
    rw [e] at h
    change (if _ then _ else _) = _ at h
    split at h
    · rename_i c; cases h; exact ⟨rfl,c⟩
    · cases h
def isSm {α:Type}:Option α → Bool
  | some _=>true
  | none=>false
section
variable {C:Ctx} {ow:List Bool} {G:Hp} {ρ:DSt} {σ:St} {H:Hp} {pd:List (D × V)} {O:Own}
def gBor (js:List Nat) (G H:Hp) (O:Own):Hp:=fun a=>if isSm (dl (iF js) O a) = true then H a else G a
def cBor (js:List Nat) (G H:Hp) (O:Own) (ρ:DSt) (σ:St) (n:Nat):Ctx:=⟨gBor js G H O,H,dl (mO ρ js n) O,σ,n⟩
theorem jl (h:RO C ow G ρ σ H pd O) (js:List Nat):aJ G (gBor js G H O):=fun a o e=>by
  show (if _ then _ else _) = _
  split
  · exact h.gh _ _ e
  · exact e
theorem km {α:Type} {o:Option α} (h:isSm o = true):∃ x,o = some x:=by cases o with | none=>cases h | some x=>exact ⟨x,rfl⟩
theorem RO.enter (h:RO C ow G ρ σ H pd O) (js:List Nat):RO (cBor js G H O ρ σ pd.length) (bor js ow) (gBor js G H O) ρ σ H pd (dl (mO ρ js pd.length) O):=by
  have sG:=jl h js
  refine ⟨h.len,?_,fun _ _ e=>e,fun _ _ e=>.inl e,?_,?_,fun _ _ e _=>e,fun _ e=>e,fun _ _ e=>e,?_,?_,Nat.le_refl _⟩
  · intro a o e
    change (if _ then _ else _) = _ at e
    split at e
    · exact e
    · exact h.gh _ _ e
  · intro a l e
    obtain ⟨e1,e2⟩:=dG e
    obtain ⟨q1,q2,q3⟩:=h.og a l e1
    refine ⟨?_,q2,.inr ⟨l.2,e⟩⟩
    · show (if _ then _ else _) = _
      rw [if_neg]; exact q1
      intro z
      obtain ⟨m,z⟩:=km z
      obtain ⟨z1,z2⟩:=dG z
      rw [e1] at z1; cases z1
      unfold iF at z2; unfold mO at e2
      simp only [Bool.and_eq_true,decide_eq_true_eq] at z2
      rw [if_pos z2.1] at e2
      split at e2
      · rw [z2.2] at e2; cases e2
      · cases e2
  · intro a l π e
    obtain ⟨e1,e2⟩:=dG e
    unfold mO at e2
    split at e2
    · rename_i c
      split at e2
      · rename_i d hd
        obtain ⟨v,hv,_⟩:=h.sl _ _ hd
        exact .inl ⟨l / 2,v,by (first|lia|omega),hv⟩
      · cases e2
    · exact .inr ⟨l / 2,by (first|lia|omega),of_decide_eq_true e2⟩
  · intro j d e
    obtain ⟨v,h1,h2⟩:=h.sl j d e
    refine ⟨v,h1,?_⟩
    by_cases c:ow[j]? = some true
    · rw [if_pos c] at h2
      by_cases c2:js.contains j = true
      · rw [if_neg (fun z=>by rw [cV] at z; rw [c2] at z; exact absurd z.2 (by decide))]
        refine h2.rep sG.ts d [] v fun a τ xs q e=>?_
        show (if _ then _ else _) = _
        rw [if_pos]; exact e
        rw [fk q]; rfl
        unfold iF
        simp only [Bool.and_eq_true,decide_eq_true_eq]
        exact ⟨by exact p9,by rw [show 2 * j / 2 = j by exact zo3]; exact c2⟩
      · rw [if_pos (cV.mpr ⟨c,by simpa using c2⟩)]
        refine h2.keep sG.ts fun a τ q=>⟨fk q ?_,rfl⟩
        unfold mO
        show (if 2 * j % 2 = 0 then _ else _) = _
        rw [if_pos (by exact p9),show 2 * j / 2 = j by exact zo3,e]
        simp at c2 ⊢; exact c2
    · rw [if_neg c] at h2
      rw [if_neg (fun z=>c (cV.mp z).1)]
      exact h2.mono sG
  · refine bX.keep sG.ts (fun a j π hj q=>⟨fk q ?_,rfl⟩) h.pn
    unfold mO
    show (if (2 * j + 1) % 2 = 0 then _ else _) = _
    rw [if_neg (by exact zo299),show (2 * j + 1) / 2 = j by exact zo189]
    simpa using hj
def Kp (ow:List Bool) (ρ ρ':DSt):Prop:=∀ (j:Nat),ow[j]? ≠ some true → ρ'[j]? = ρ[j]?
def lD (js:List Nat) (O:Own) (G2:Hp):Hp:=fun a=>if isSm (dl (iF js) O a) = true then none else G2 a
def vi (js:List Nat) (O O2:Own):Own:=fun a=>match O2 a with
  | some l=>some l
  | none=>dl (iF js) O a
theorem RO.leave (h:RO C ow G ρ σ H pd O) {js:List Nat} {G2:Hp} {ρ2:DSt} {H2:Hp} {pd2:List (D × V)} {O2:Own}
    (h2:RO (cBor js G H O ρ σ pd.length) (bor js ow) G2 ρ2 σ H2 pd2 O2) (kp:Kp (bor js ow) ρ ρ2) :
    RO C ow (lD js O G2) ρ2 σ H2 pd2 (vi js O O2) ∧ aJ G (lD js O G2) ∧ cK G2 (lD js O G2):=by
  have sG:=jl h js
  have dm:∀ a m,dl (iF js) O a = some m → O a = some m ∧ G a = none ∧ ∃ xs:WrO,H a = some xs.ho ∧ G2 a = some xs.ho:=fun a m e=>by
    obtain ⟨e1,e2⟩:=dG e
    obtain ⟨q1,⟨xs,q2⟩,q3⟩:=h.og a m e1
    refine ⟨e1,q1,xs,q2,h2.g0 a _ ?_⟩
    show (if _ then _ else _) = _
    rw [if_pos (by rw [e]; rfl)]; exact q2
  have nd:∀ a,G a ≠ none → ¬ isSm (dl (iF js) O a) = true:=fun a g z=>by
    obtain ⟨m,z⟩:=km z
    exact g (dm a m z).2.1
  have sG3:aJ G (lD js O G2):=fun a o e=>by
    show (if _ then _ else _) = _
    rw [if_neg (nd a (by rw [e]; simp))]
    exact h2.g0 a o (sG a o e)
  have ts:cK G2 (lD js O G2):=fun a xs e=>by
    show (if _ then _ else _) = _
    rw [if_neg]; exact e
    intro z
    obtain ⟨m,z⟩:=km z
    obtain ⟨_,_,ys,_,q⟩:=dm a m z
    rw [e] at q; exact (WrO.ne (Option.some.inj q).symm).elim
  have o2:∀ a l,O2 a = some l → vi js O O2 a = some l:=fun a l e=>by show (match O2 a with | some l=>some l | none=>_) = _; rw [e]
  refine ⟨⟨h2.len,?_,fun a o e=>sG3 _ _ (h.g0 _ _ e),?_,?_,h.cok,?_,fun a e=>h.al a (h2.al a e),h.mp,?_,?_,Nat.le_trans h.np h2.np⟩,sG3,ts⟩
  · intro a o e
    change (if _ then _ else _) = _ at e
    split at e
    · cases e
    · exact h2.gh _ _ e
  · intro a o e
    change (if _ then _ else _) = _ at e
    split at e
    · cases e
    · rename_i c
      rcases h2.gn a o e with q | q
      · change (if _ then _ else _) = _ at q
        rw [if_neg c] at q
        exact h.gn a o q
      · exact .inr (h.al a q)
  · intro a l e
    change (match O2 a with | some l=>some l | none=>_) = _ at e
    cases q:O2 a with
    | some l' =>
      rw [q] at e; cases e
      obtain ⟨q1,q2,q3⟩:=h2.og a l q
      refine ⟨by show (if _ then _ else _) = _; split <;> first | rfl | exact q1,q2,?_⟩
      rcases q3 with q3 | ⟨q3,q4⟩
      · exact .inl (h.al a q3)
      · exact (h.og a _ (dG q4).1).2.2
    | none =>
      rw [q] at e
      change dl (iF js) O a = some l at e
      obtain ⟨e1,q1,xs,q2,q3⟩:=dm a l e
      refine ⟨by show (if _ then _ else _) = _; rw [if_pos (by rw [e]; rfl)],⟨xs,h2.gh _ _ q3⟩,(h.og a l e1).2.2⟩
  · intro a o e n
    have q:=h.fr a o e n
    refine h2.fr a o q ?_
    show dl _ O a = none
    cases z:dl (mO ρ js pd.length) O a with
    | none=>rfl
    | some m =>
      obtain ⟨z1,_⟩:=dG z
      obtain ⟨_,_,z3⟩:=h.og a m z1
      rcases z3 with z3 | ⟨_,z3⟩
      · rw [z3] at e; cases e
      · rw [z3] at n; cases n
  · intro j d e
    by_cases c:(bor js ow)[j]? = some true
    · obtain ⟨v,q1,q2⟩:=h2.sl j d e
      rw [if_pos c] at q2
      refine ⟨v,q1,?_⟩
      rw [if_pos (cV.mp c).1]
      exact q2.keep ts fun a τ q=>⟨o2 _ _ q,rfl⟩
    · rw [kp j c] at e
      obtain ⟨v,q1,q2⟩:=h.sl j d e
      refine ⟨v,q1,?_⟩
      by_cases c2:ow[j]? = some true
      · rw [if_pos c2] at q2 ⊢
        have hj:js.contains j = true:=by
          cases z:js.contains j with
          | true=>rfl
          | false=>exact absurd (cV.mpr ⟨c2,z⟩) c
        refine q2.keep sG3.ts fun a τ q=>?_
        have dd:dl (iF js) O a = some (2 * j,τ ++ []):=fk q (by
          unfold iF
          simp only [Bool.and_eq_true,decide_eq_true_eq]
          exact ⟨by exact p9,by rw [show 2 * j / 2 = j by exact zo3]; exact hj⟩)
        obtain ⟨_,_,xs,q4,q5⟩:=dm a _ dd
        refine ⟨?_,by rw [q4]; exact h2.gh _ _ q5⟩
        show (match O2 a with | some l=>some l | none=>_) = _
        cases z:O2 a with
        | some l=>have:=(h2.og a l z).1; rw [q5] at this; cases this
        | none=>exact dd
      · rw [if_neg c2] at q2 ⊢
        exact q2.mono sG3
  · exact bX.keep ts (fun a j π hj q=>⟨o2 _ _ q,rfl⟩) h2.pn
end
abbrev ME:=DSt → (D → DSt → Prop) → Prop
abbrev MT:=DSt → (Bool → DSt → Prop) → Prop
abbrev MA:=DSt → (List D → DSt → Prop) → Prop
def SE (ow:List Bool) (t:TE) (m:ME):Prop:=∀ (C:Ctx) (G:Hp) (ρ:DSt) (σ:St) (H:Hp) (pd:List (D × V)) (q:D → DSt → Prop) (Q:VK),R C ow G ρ σ H pd → m ρ q →
  (∀ d ρ' v G' H',q d ρ' → aJ G G' → Kp ow ρ ρ' → R C ow G' ρ' σ H' pd → Rep G' d v → Q v H') → t σ H Q
def SF (ow:List Bool) (t:TE) (m:ME):Prop:=∀ (C:Ctx) (G:Hp) (ρ:DSt) (σ:St) (H:Hp) (pd:List (D × V)) (q:D → DSt → Prop) (Q:VK),R C ow G ρ σ H pd → m ρ q →
  (∀ d ρ' v G' H',q d ρ' → aJ G G' → Kp ow ρ ρ' → R C ow G' ρ' σ H' ((d,v) :: pd) → Q v H') → t σ H Q
def STe (ow:List Bool) (t:TT) (m:MT):Prop:=∀ (C:Ctx) (G:Hp) (ρ:DSt) (σ:St) (H:Hp) (pd:List (D × V)) (q:Bool → DSt → Prop) (Q:Bool → Hp → Prop),R C ow G ρ σ H pd → m ρ q →
  (∀ b ρ' G' H',q b ρ' → aJ G G' → Kp ow ρ ρ' → R C ow G' ρ' σ H' pd → Q b H') → t σ H Q
def SA (ow:List Bool) (n:Nat) (t:TA) (m:MA):Prop:=∀ (C:Ctx) (G:Hp) (ρ:DSt) (σ:St) (H:Hp) (pd:List (D × V)) (q:List D → DSt → Prop) (Q:List V → Hp → Prop),R C ow G ρ σ H pd → m ρ q →
  (∀ ds ρ' vs G' H',q ds ρ' → aJ G G' → Kp ow ρ ρ' → R C ow G' ρ' σ H' pd → Reps G' ds vs → vs.length = n → Q vs H') → t σ H Q
structure QE (X:Cx) (ow:List Bool) (e:Expr) (m:ME):Prop where
  ex:∃ t,PE X e t ∧ SE ow t m
structure QF (X:Cx) (ow:List Bool) (e:Expr) (m:ME):Prop where
  ex:∃ t,PE X e t ∧ SF ow t m
structure QT (X:Cx) (ow:List Bool) (e:Expr) (m:MT):Prop where
  ex:∃ t,PT X e t ∧ STe ow t m
structure QW (X:Cx) (ow:List Bool) (e:Expr) (m:MT):Prop where
  ex:∃ t,PW X e t ∧ STe ow t m
structure QA (X:Cx) (ow:List Bool) (es:List Expr) (m:MA):Prop where
  ex:∃ t,PA X es t ∧ SA ow es.length t m
theorem Kp.refl {ow:List Bool} {ρ:DSt}:Kp ow ρ ρ:=fun _ _=>rfl
theorem Kp.trans {ow:List Bool} {ρ ρ1 ρ2:DSt} (a:Kp ow ρ ρ1) (b:Kp ow ρ1 ρ2):Kp ow ρ ρ2:=fun j h=>(b j h).trans (a j h)
theorem R.gh {C:Ctx} {ow:List Bool} {G:Hp} {ρ:DSt} {σ:St} {H:Hp} {pd:List (D × V)} (h:R C ow G ρ σ H pd):aJ G H:=let ⟨_,h⟩:=h; h.gh
theorem R.np {C:Ctx} {ow:List Bool} {G:Hp} {ρ:DSt} {σ:St} {H:Hp} {pd:List (D × V)} (h:R C ow G ρ σ H pd):C.np ≤ pd.length:=let ⟨_,h⟩:=h; h.np
section
variable {X:Cx} {ow:List Bool} {a b c e:Expr} {ma mb mc:ME} {pos:Pos}
def mVar (i:Nat):ME:=fun ρ q=>match ρ[i]? with
  | some (some d)=>q d ρ
  | _=>False
theorem aa (i:Nat) {x:Str} (hs:ow[i]? ≠ some true:=by decide) (hN:X.N[i]? = some x:=by rfl) (hv:Vis X.env.scope x:=by first | exact Or.inl rfl | exact Or.inr (Or.inl rfl) | exact Or.inr (Or.inr rfl)) (hd:(x == ("__debug__":Str)) = false:=by decide)
    (hcd:(x == ("__classdict__":Str)) = false:=by decide):QE X ow (.Name x pos) (mVar i):=⟨_,d6 hN hv hd hcd,fun C G ρ σ H pd q Q r h k=>by
  unfold mVar at h
  split at h
  · rename_i d e
    obtain ⟨O,ro⟩:=r
    obtain ⟨v,h1,h2⟩:=ro.sl i d e
    rw [if_neg hs] at h2
    exact ⟨v,h1,k d ρ v G H h (aJ.refl _) Kp.refl ⟨O,ro⟩ h2⟩
  · exact h.elim⟩
def mC (d:D):ME:=fun ρ q=>q d ρ
theorem ql {v:V} {d:D} (h:PE X e (tC v)) (hr:∀ G,Rep G d v):QE X ow e (mC d):=⟨_,h,fun C G ρ σ H pd q Q r h k=>k d ρ v G H h (aJ.refl _) Kp.refl r (hr G)⟩
theorem ad {i j}:QE X ow (.Constant (.int i) j pos) (mC (.int i)):=ql pO fun _=>bq _
theorem cM {i j}:QE X ow (.Constant (.bool i) j pos) (mC (.bl i)):=ql uC fun _=>bS _
theorem kz {j}:QE X ow (.Constant .none j pos) (mC .non):=ql xb fun _=>nT
theorem cP {i j}:QE X ow (.Constant (.str i) j pos) (mC (.str i)):=ql wc fun _=>nU _
theorem eP {x:Str} {i:Int} (hg:Gl X x) (hm:∃ t,X.mg x = some (.int i t)) (hd:(x == ("__debug__":Str)) = false:=by decide):QE X ow (.Name x pos) (mC (.int i)):=by
  obtain ⟨t,hm⟩:=hm
  exact ql (sX (v:=.int i) hg hm ⟨t,rfl⟩ hd) fun _=>bq _
theorem iw {ta tb:TE} (ha:SE ow ta ma) (hb:SE ow tb mb) {C:Ctx} {G:Hp} {ρ:DSt} {σ:St} {H:Hp} {pd:List (D × V)} {f:D → D → DSt → Prop} {Q:V → V → Hp → Prop}
    (r:R C ow G ρ σ H pd) (h:ma ρ fun x ρ1=>mb ρ1 fun y ρ2=>f x y ρ2)
    (k:∀ dx dy ρ' x y G' H',f dx dy ρ' → aJ G G' → Kp ow ρ ρ' → R C ow G' ρ' σ H' pd → Rep G' dx x → Rep G' dy y → Q x y H'):ta σ H fun x H1=>tb σ H1 fun y H2=>Q x y H2:=by
  refine ha C G ρ σ H pd _ _ r h fun dx ρ1 x G1 H1 h1 s1 k1 r1 p1=>?_
  refine hb C G1 ρ1 σ H1 pd _ _ r1 h1 fun dy ρ2 y G2 H2 h2 s2 k2 r2 p2=>?_
  exact k dx dy ρ2 x y G2 H2 h2 (s1.trans s2) (k1.trans k2) r2 (Rep.mono s2 _ _ p1) p2
def DOp (r:R2) (f:D → D → (D → Prop) → Prop):Prop:=∀ (G H:Hp) (x y:V) (dx dy:D) (q:D → Prop) (Q:VK),aJ G H → Rep G dx x → Rep G dy y → f dx dy q → (∀ d v,q d → Rep G d v → Q v H) → r x y H Q
def mOp (f:D → D → (D → Prop) → Prop) (ma mb:ME):ME:=fun ρ q=>ma ρ fun x ρ1=>mb ρ1 fun y ρ2=>f x y fun d=>q d ρ2
theorem nO {r:R2} {f:D → D → (D → Prop) → Prop} {ta tb:TE} (hd:DOp r f) (ha:SE ow ta ma) (hb:SE ow tb mb):SE ow (tOp r ta tb) (mOp f ma mb):=fun C G ρ σ H pd q Q hr h k=>by
  refine iw ha hb hr h fun dx dy ρ' x y G' H' hf s kp r' p1 p2=>?_
  exact hd G' H' x y dx dy _ _ r'.gh p1 p2 hf fun d v hq p=>k d ρ' v G' H' hq s kp r' p
theorem aI {op:Operator} {r:R2} {f:D → D → (D → Prop) → Prop} (ho:OpR X (binaryOp op) r) (hd:DOp r f) (ha:QE X ow a ma) (hb:QE X ow b mb):QE X ow (.BinOp a op b pos) (mOp f ma mb):=by
  obtain ⟨ta,pa,sa⟩:=ha; obtain ⟨tb,pb,sb⟩:=hb
  exact ⟨_,nY ho pa pb,nO hd sa sb⟩
theorem cS {op:CmpOp} {r:R2} {f:D → D → (D → Prop) → Prop} (ho:OpR X (compareOp op) r) (hd:DOp r f) (ha:QE X ow a ma) (hb:QE X ow b mb) (hm:behindInMarks op b = false):QE X ow (.Compare a [op] [b] pos) (mOp f ma mb):=by
  obtain ⟨ta,pa,sa⟩:=ha; obtain ⟨tb,pb,sb⟩:=hb
  exact ⟨_,tp ho pa pb hm,nO hd sa sb⟩
theorem aw {r:R2} {f:D → D → (D → Prop) → Prop} (ho:IxR X r) (hd:DOp r f) (ha:QE X ow a ma) (hb:QE X ow b mb) (hs:kG b):QE X ow (.Subscript a b pos) (mOp f ma mb):=by
  obtain ⟨ta,pa,sa⟩:=ha; obtain ⟨tb,pb,sb⟩:=hb
  exact ⟨_,t3 ho pa pb hs,nO hd sa sb⟩
def mB (m:ME):MT:=fun ρ q=>m ρ fun d ρ'=>match d with
  | .bl b=>q b ρ'
  | _=>False
theorem b9 {G:Hp} {b:Bool} {v:V} (h:Rep G (.bl b) v):v = .bl b:=by rw [Rep] at h; exact h
theorem aG {G:Hp} {b:Int} {v:V} (h:Rep G (.int b) v):v = .int b:=by rw [Rep] at h; exact h
theorem ul {t:TE} {m:ME} (h:SE ow t m):STe ow (uN t) (mB m):=fun C G ρ σ H pd q Q r hm k=>by
  refine h C G ρ σ H pd _ _ r hm fun d ρ' v G' H' hq s kp r' p=>?_
  cases d with
  | bl b=>exact ⟨b,b9 p,k b ρ' G' H' hq s kp r'⟩
  | _=>exact hq.elim
theorem aS {op:CmpOp} {r:R2} {f:D → D → (D → Prop) → Prop} (ho:OpR X (compareOp op) r) (hd:DOp r f) (ha:QE X ow a ma) (hb:QE X ow b mb) (hm:behindInMarks op b = false):QT X ow (.Compare a [op] [b] pos) (mB (mOp f ma mb)):=by
  obtain ⟨ta,pa,sa⟩:=ha; obtain ⟨tb,pb,sb⟩:=hb
  exact ⟨_,tN ho pa pb hm,ul (nO hd sa sb)⟩
theorem ba (h:QE X ow e ma) (he:∀ whole,isTrue e X.env whole = (do let v ← whole; standAt e.pos; holding [v] (truthy v)):=by intro _; rfl):QT X ow e (mB ma):=by
  obtain ⟨ta,pa,sa⟩:=h
  exact ⟨_,wZ pa he,ul sa⟩
def mTru (m:ME):MT:=fun ρ q=>m ρ fun d ρ'=>match d with
  | .bl b=>q b ρ'
  | .lst ds=>q (!ds.isEmpty) ρ'
  | .tup ds=>q (!ds.isEmpty) ρ'
  | .int i=>q (i != 0) ρ'
  | .non=>q false ρ'
  | _=>False
theorem qd {α β:Type} {xs:List α} {ds:List β} (h:xs.length = ds.length):(!xs.isEmpty) = !ds.isEmpty:=by
  cases xs <;> cases ds <;> simp_all
theorem ig (h:QE X ow e ma) (he:∀ whole,isTrue e X.env whole = (do let v ← whole; standAt e.pos; holding [v] (truthy v)):=by intro _; rfl):QT X ow e (mTru ma):=by
  obtain ⟨ta,pa,sa⟩:=h
  refine ⟨_,qU pa he,fun C G ρ σ H pd q Q r hm k=>?_⟩
  refine sa C G ρ σ H pd _ _ r hm fun d ρ' v G' H' hq s kp r' p=>?_
  cases d with
  | bl b=>exact ⟨b,by rw [b9 p]; rfl,k b ρ' G' H' hq s kp r'⟩
  | int i=>exact ⟨_,by rw [aG p]; rfl,k _ ρ' G' H' hq s kp r'⟩
  | non=>exact ⟨_,by rw [Rep] at p; rw [p]; rfl,k _ ρ' G' H' hq s kp r'⟩
  | lst ds=>rw [Rep] at p; obtain ⟨a,xs,rfl,h1,h2⟩:=p; exact ⟨_,.inl ⟨xs,SqL.of (r'.gh _ _ h1),(qd h2.length).symm⟩,k _ ρ' G' H' hq s kp r'⟩
  | tup ds=>rw [Rep] at p; obtain ⟨a,xs,rfl,h1,h2⟩:=p; exact ⟨_,.inr (.inl ⟨xs,SqT.of (r'.gh _ _ h1),(qd h2.length).symm⟩),k _ ρ' G' H' hq s kp r'⟩
  | _=>exact hq.elim
def mIf {α:Type} (m:MT) (x y:DSt → (α → DSt → Prop) → Prop):DSt → (α → DSt → Prop) → Prop:=fun ρ q=>m ρ fun b ρ1=>if b = true then x ρ1 q else y ρ1 q
def kY (b:Bool):MT:=fun ρ q=>q b ρ
theorem uK {t t1 t2:TT} {m m1 m2:MT} (h:STe ow t m) (h1:STe ow t1 m1) (h2:STe ow t2 m2):STe ow (fun σ H Q=>t σ H fun c H1=>if c = true then t1 σ H1 Q else t2 σ H1 Q) (mIf m m1 m2):=fun C G ρ σ H pd q Q r hm k=>by
  refine h C G ρ σ H pd _ _ r hm fun b ρ' G' H' hq s kp r'=>?_
  cases b with
  | true=>rw [if_pos rfl] at hq ⊢; exact h1 C G' ρ' σ H' pd _ _ r' hq fun b ρ2 G2 H2 hq2 s2 kp2 r2=>k b ρ2 G2 H2 hq2 (s.trans s2) (kp.trans kp2) r2
  | false=>rw [if_neg (by decide)] at hq ⊢; exact h2 C G' ρ' σ H' pd _ _ r' hq fun b ρ2 G2 H2 hq2 s2 kp2 r2=>k b ρ2 G2 H2 hq2 (s.trans s2) (kp.trans kp2) r2
theorem mE (b:Bool):STe ow (fun _ H Q=>Q b H) (kY b):=fun C G ρ σ H pd q Q r hm k=>k b ρ G H hm (aJ.refl _) Kp.refl r
variable {mt mu mv:MT} {rest:List Expr}
theorem fL (h:QT X ow a mt):QW X ow (.BoolOp .And [a] pos) mt:=by obtain ⟨t,p,s⟩:=h; exact ⟨_,sE p,s⟩
theorem dc (h:QT X ow a mt):QW X ow (.BoolOp .Or [a] pos) mt:=by obtain ⟨t,p,s⟩:=h; exact ⟨_,xh p,s⟩
theorem gb (h:QT X ow a mt) (h2:QW X ow (.BoolOp .And (b :: rest) pos) mu):QW X ow (.BoolOp .And (a :: b :: rest) pos) (mIf mt mu (kY false)):=by
  obtain ⟨t,p,s⟩:=h; obtain ⟨t2,p2,s2⟩:=h2; exact ⟨_,w5 p p2,uK s s2 (mE false)⟩
theorem dH (h:QT X ow a mt) (h2:QW X ow (.BoolOp .Or (b :: rest) pos) mu):QW X ow (.BoolOp .Or (a :: b :: rest) pos) (mIf mt (kY true) mu):=by
  obtain ⟨t,p,s⟩:=h; obtain ⟨t2,p2,s2⟩:=h2; exact ⟨_,pw_or p p2,uK s (mE true) s2⟩
theorem QW.qt (h:QW X ow e mt):QT X ow e mt:=by obtain ⟨t,p,s⟩:=h; exact ⟨_,p.pt,s⟩
def mNot (m:MT):MT:=fun ρ q=>m ρ fun b ρ'=>q (!b) ρ'
theorem bu (h:QT X ow a mt):QT X ow (.UnaryOp .Not a pos) (mNot mt):=by
  obtain ⟨t,p,s⟩:=h
  exact ⟨_,xM p,fun C G ρ σ H pd q Q r hm k=>s C G ρ σ H pd _ _ r hm fun b ρ' G' H' hq s kp r'=>k _ ρ' G' H' hq s kp r'⟩
def mV (m:MT):ME:=fun ρ q=>m ρ fun b ρ'=>q (.bl b) ρ'
theorem er {op} (h:QE X ow a ma):QE X ow (.BoolOp op [a] pos) ma:=by obtain ⟨t,p,s⟩:=h; exact ⟨_,vP p,s⟩
theorem f8 (h:QE X ow a ma):QE X ow (.UnaryOp .Not a pos) (mV (mNot (mB ma))):=by
  obtain ⟨t,p,s⟩:=h
  refine ⟨_,w9 p,fun C G ρ σ H pd q Q r hm k=>?_⟩
  refine s C G ρ σ H pd _ _ r hm fun d ρ' v G' H' hq s kp r' p=>?_
  cases d with
  | bl b=>exact ⟨b,b9 p,k _ ρ' _ G' H' hq s kp r' (bS _)⟩
  | _=>exact hq.elim
theorem dr (h:QE X ow a ma) (h2:QE X ow (.BoolOp .And (b :: rest) pos) mb):QE X ow (.BoolOp .And (a :: b :: rest) pos) (mIf (mB ma) mb (mC (.bl false))):=by
  obtain ⟨t,p,s⟩:=h; obtain ⟨t2,p2,s2⟩:=h2
  refine ⟨_,vE p p2,fun C G ρ σ H pd q Q r hm k=>?_⟩
  refine s C G ρ σ H pd _ _ r hm fun d ρ' v G' H' hq s kp r' p=>?_
  cases d with
  | bl b =>
    refine ⟨b,b9 p,?_⟩
    change (if b = true then _ else _) at hq
    cases b with
    | true=>rw [if_pos rfl] at hq ⊢; exact s2 C G' ρ' σ H' pd _ _ r' hq fun d ρ2 v G2 H2 hq2 z2 kp2 r2 p2=>k d ρ2 v G2 H2 hq2 (s.trans z2) (kp.trans kp2) r2 p2
    | false=>rw [if_neg (by decide)] at hq ⊢; exact k _ ρ' _ G' H' hq s kp r' (bS _)
  | _=>exact hq.elim
theorem pG (h:QT X ow c mt) (ha:QE X ow a ma) (hb:QE X ow b mb):QE X ow (.IfExp c a b pos) (mIf mt ma mb):=by
  obtain ⟨t,p,s⟩:=h; obtain ⟨t1,p1,s1⟩:=ha; obtain ⟨t2,p2,s2⟩:=hb
  refine ⟨_,rQ p p1 p2,fun C G ρ σ H pd q Q r hm k=>?_⟩
  refine s C G ρ σ H pd _ _ r hm fun d ρ' G' H' hq s kp r'=>?_
  cases d with
  | true=>rw [if_pos rfl] at hq ⊢; exact s1 C G' ρ' σ H' pd _ _ r' hq fun d ρ2 v G2 H2 hq2 z2 kp2 r2 p2=>k d ρ2 v G2 H2 hq2 (s.trans z2) (kp.trans kp2) r2 p2
  | false=>rw [if_neg (by decide)] at hq ⊢; exact s2 C G' ρ' σ H' pd _ _ r' hq fun d ρ2 v G2 H2 hq2 z2 kp2 r2 p2=>k d ρ2 v G2 H2 hq2 (s.trans z2) (kp.trans kp2) r2 p2
theorem QF.qe (h:QF X ow e ma):QE X ow e ma:=by
  obtain ⟨t,p,s⟩:=h
  refine ⟨_,p,fun C G ρ σ H pd q Q r hm k=>s C G ρ σ H pd _ _ r hm fun d ρ' v G' H' hq s kp r'=>?_⟩
  obtain ⟨O,r'⟩:=r'
  obtain ⟨G2,s2,r2,p2⟩:=r'.share r.np
  exact k d ρ' v G2 H' hq (s.trans s2) kp r2 p2
def mImm (m:ME):ME:=fun ρ q=>m ρ fun d ρ'=>imm d = true ∧ q d ρ'
theorem QE.qf (h:QE X ow e ma):QF X ow e (mImm ma):=by
  obtain ⟨t,p,s⟩:=h
  refine ⟨_,p,fun C G ρ σ H pd q Q r hm k=>s C G ρ σ H pd _ _ r hm fun d ρ' v G' H' hq s kp r' p=>?_⟩
  obtain ⟨O,r'⟩:=r'
  exact k d ρ' v G' H' hq.2 s kp ⟨O,r'.len,r'.gh,r'.g0,r'.gn,r'.og,r'.cok,r'.fr,r'.al,r'.mp,r'.sl,⟨p.sep d [] v hq.1,r'.pn⟩,Nat.le_succ_of_le r'.np⟩
theorem ke {js:List Nat} {ρ ρ':DSt} (h:Kp (bor js ow) ρ ρ'):Kp ow ρ ρ':=fun j n=>h j fun z=>n (cV.mp z).1
theorem QE.bor (js:List Nat) (h:QE X (bor js ow) e ma):QE X ow e (mImm ma):=by
  obtain ⟨t,p,s⟩:=h
  refine ⟨_,p,fun C G ρ σ H pd q Q r hm k=>?_⟩
  obtain ⟨O,r⟩:=r
  refine s _ _ ρ σ H pd _ _ ⟨_,r.enter js⟩ hm fun d ρ' v G' H' hq s kp r' p=>?_
  obtain ⟨O',r'⟩:=r'
  obtain ⟨r2,s2,ts⟩:=r.leave r' kp
  exact k d ρ' v _ H' hq.2 s2 (ke kp) ⟨_,r2⟩ (p.imms ts d v hq.1)
theorem QF.bor (js:List Nat) (h:QF X (bor js ow) e ma):QF X ow e ma:=by
  obtain ⟨t,p,s⟩:=h
  refine ⟨_,p,fun C G ρ σ H pd q Q r hm k=>?_⟩
  obtain ⟨O,r⟩:=r
  refine s _ _ ρ σ H pd _ _ ⟨_,r.enter js⟩ hm fun d ρ' v G' H' hq s kp r'=>?_
  obtain ⟨O',r'⟩:=r'
  obtain ⟨r2,s2,ts⟩:=r.leave r' kp
  exact k d ρ' v _ H' hq s2 (ke kp) ⟨_,r2⟩
theorem QT.bor (js:List Nat) (h:QT X (bor js ow) e mt):QT X ow e mt:=by
  obtain ⟨t,p,s⟩:=h
  refine ⟨_,p,fun C G ρ σ H pd q Q r hm k=>?_⟩
  obtain ⟨O,r⟩:=r
  refine s _ _ ρ σ H pd _ _ ⟨_,r.enter js⟩ hm fun d ρ' G' H' hq s kp r'=>?_
  obtain ⟨O',r'⟩:=r'
  obtain ⟨r2,s2,ts⟩:=r.leave r' kp
  exact k d ρ' _ H' hq s2 (ke kp) ⟨_,r2⟩
def o6:MA:=fun ρ q=>q [] ρ
def fg (m:ME) (r:MA):MA:=fun ρ q=>m ρ fun d ρ1=>r ρ1 fun ds ρ2=>q (d :: ds) ρ2
variable {mr:MA} {es:List Expr}
theorem ah:QA X ow [] o6:=⟨_,cO,fun C G ρ σ H pd q Q r h k=>k [] ρ [] G H h (aJ.refl _) Kp.refl r bN rfl⟩
theorem ae (ha:QE X ow e ma) (hr:QA X ow es mr) (hs:starEach (e :: es) X.env = (false,eval e X.env) :: starEach es X.env:=by rfl):QA X ow (e :: es) (fg ma mr):=by
  obtain ⟨t,p,s⟩:=ha; obtain ⟨t2,p2,s2⟩:=hr
  refine ⟨_,bK p p2 hs,fun C G ρ σ H pd q Q r hm k=>?_⟩
  refine s C G ρ σ H pd _ _ r hm fun d ρ' v G' H' hq z kp r' p=>?_
  refine s2 C G' ρ' σ H' pd _ _ r' hq fun ds ρ2 vs G2 H2 hq2 z2 kp2 r2 p2 hl=>?_
  exact k (d :: ds) ρ2 (v :: vs) G2 H2 hq2 (z.trans z2) (kp.trans kp2) r2 (bA (Rep.mono z2 _ _ p) p2) (by simp [hl])
def mTup (m:MA):ME:=fun ρ q=>m ρ fun ds ρ'=>q (.tup ds) ρ'
def mLst (m:MA):ME:=fun ρ q=>m ρ fun ds ρ'=>q (.lst ds) ρ'
def mLstI (m:MA):ME:=fun ρ q=>m ρ fun ds ρ'=>imms ds = true ∧ q (.lst ds) ρ'
theorem dz {n:Nat} (h:n ≤ 1000):n ≤ sizeLine:=Nat.le_of_lt (bY h)
theorem b8 {x1} (h:QA X ow es mr) (hl:es.length ≤ 1000:=by decide):QE X ow (.Tuple es x1 pos) (mTup mr):=by
  obtain ⟨t,p,s⟩:=h
  refine ⟨_,rR p,fun C G ρ σ H pd q Q r hm k=>s C G ρ σ H pd _ _ r hm fun ds ρ' vs G' H' hq z kp r' p hn=>⟨dz (by exact rC hl hn),fun a ha=>?_⟩⟩
  obtain ⟨O,r'⟩:=r'
  obtain ⟨r2,s2⟩:=r'.new ha (.tup vs)
  exact k _ ρ' _ _ _ hq (z.trans s2) kp ⟨O,r2⟩ (jQ aH (Reps.mono s2 _ _ p))
theorem cx (h:QA X ow es mr) (hl:es.length ≤ 1000:=by decide):QE X ow (.List es pos) (mLst mr):=by
  obtain ⟨t,p,s⟩:=h
  refine ⟨_,l8 p,fun C G ρ σ H pd q Q r hm k=>s C G ρ σ H pd _ _ r hm fun ds ρ' vs G' H' hq z kp r' p hn=>⟨dz (by exact rC hl hn),fun a ha=>?_⟩⟩
  obtain ⟨O,r'⟩:=r'
  obtain ⟨r2,s2⟩:=r'.new ha (.lst vs)
  exact k _ ρ' _ _ _ hq (z.trans s2) kp ⟨O,r2⟩ (gH aH (Reps.mono s2 _ _ p))
theorem b6 (h:QA X ow es mr) (hl:es.length ≤ 1000:=by decide):QF X ow (.List es pos) (mLstI mr):=by
  obtain ⟨t,p,s⟩:=h
  refine ⟨_,l8 p,fun C G ρ σ H pd q Q r hm k=>s C G ρ σ H pd _ _ r hm fun ds ρ' vs G' H' hq z kp r' p hn=>⟨dz (by exact rC hl hn),fun a ha=>?_⟩⟩
  obtain ⟨O,r'⟩:=r'
  exact k _ ρ' _ _ _ hq.2 z kp (r'.newL ha hq.1 p)
def gC (r:List V → Hp → VK → Prop) (f:List D → (D → Prop) → Prop):Prop:=∀ (G H:Hp) (xs:List V) (ds:List D) (q:D → Prop) (Q:VK),aJ G H → Reps G ds xs → f ds q → (∀ d v,q d → Rep G d v → Q v H) → r xs H Q
def mCB (f:List D → (D → Prop) → Prop) (m:MA):ME:=fun ρ q=>m ρ fun ds ρ'=>f ds fun d=>q d ρ'
theorem uQ {r:List V → Hp → VK → Prop} {f:List D → (D → Prop) → Prop} {t:TA} {n:Nat} (hd:gC r f) (s:SA ow n t mr):SE ow (tCB r t) (mCB f mr):=fun C G ρ σ H pd q Q hr hm k =>
  s C G ρ σ H pd _ _ hr hm fun ds ρ' vs G' H' hq z kp r' p hn=>hd G' H' vs ds _ _ r'.gh p hq fun d v hq p=>k d ρ' v G' H' hq z kp r' p
variable {x:Str} {p':Pos}
theorem aA {id:String} {r:List V → Hp → VK → Prop} {f:List D → (D → Prop) → Prop} (hc:cq X (.builtin id) r) (hd:gC r f) (hg:Gl X x) (hm:X.mg x = none) (hv:bootBuiltins x = some (.builtin id)) (ha:QA X ow (e :: es) mr) (hn:x ≠ "__name__":=by decide) (hdb:(x == ("__debug__":Str)) = false:=by decide)
    (he:starEach (e :: es) X.env = (false,eval e X.env) :: starEach es X.env:=by rfl) (hpl:(backTo pos (starEach es X.env)).any (·.1) = false:=by rfl):QE X ow (.Call (.Name x p') (e :: es) [] pos) (mCB f mr):=by
  obtain ⟨t,p,s⟩:=ha
  exact ⟨_,fD hc hg hm hv p hn hdb he hpl,uQ hd s⟩
theorem jA {id:String} {r:List V → Hp → VK → Prop} {f:List D → (D → Prop) → Prop} (hc:cq X (.type id) r) (hd:gC r f) (hg:Gl X x) (hm:X.mg x = none) (hv:bootBuiltins x = some (.type id)) (ha:QA X ow (e :: es) mr) (hn:x ≠ "__name__":=by decide) (hdb:(x == ("__debug__":Str)) = false:=by decide)
    (he:starEach (e :: es) X.env = (false,eval e X.env) :: starEach es X.env:=by rfl) (hpl:(backTo pos (starEach es X.env)).any (·.1) = false:=by rfl):QE X ow (.Call (.Name x p') (e :: es) [] pos) (mCB f mr):=by
  obtain ⟨t,p,s⟩:=ha
  exact ⟨_,cZ hc hg hm hv p hn hdb he hpl,uQ hd s⟩
end
def fI (g:Int → Int → Int):D → D → (D → Prop) → Prop:=fun a b q=>match a,b with
  | .int i,.int j=>q (.int (g i j))
  | _,_=>False
def fIC (C:Int → Int → Prop) (g:Int → Int → Int):D → D → (D → Prop) → Prop:=fun a b q=>match a,b with
  | .int i,.int j=>C i j ∧ q (.int (g i j))
  | _,_=>False
def fB (g:Int → Int → Bool):D → D → (D → Prop) → Prop:=fun a b q=>match a,b with
  | .int i,.int j=>q (.bl (g i j))
  | _,_=>False
theorem dI {g:Int → Int → Int}:DOp (rI0 fun i j=>.int (g i j)) (fI g):=fun G H x y dx dy q Q s p1 p2 hf k=>by
  unfold fI at hf
  split at hf
  · exact ⟨_,_,aG p1,aG p2,k _ _ hf (bq _)⟩
  · exact hf.elim
theorem dIC {C:Int → Int → Prop} {g:Int → Int → Int}:DOp (rI C fun i j=>.int (g i j)) (fIC C g):=fun G H x y dx dy q Q s p1 p2 hf k=>by
  unfold fIC at hf
  split at hf
  · exact ⟨_,_,aG p1,aG p2,hf.1,k _ _ hf.2 (bq _)⟩
  · exact hf.elim
theorem dB {g:Int → Int → Bool}:DOp (rI0 fun i j=>.bl (g i j)) (fB g):=fun G H x y dx dy q Q s p1 p2 hf k=>by
  unfold fB at hf
  split at hf
  · exact ⟨_,_,aG p1,aG p2,k _ _ hf (bS _)⟩
  · exact hf.elim
def eqD (a b:D):Bool:=PyData.eqv (toP a) (toP b)
def okD (a:D):Bool:=SeqAt.shaped (toP a)
def fEq:D → D → (D → Prop) → Prop:=fun a b q=>match a,b with
  | .int i,.int j=>q (.bl (decide (i = j)))
  | a,b=>okD a = true ∧ okD b = true ∧ q (.bl (eqD a b))
def fNe:D → D → (D → Prop) → Prop:=fun a b q=>match a,b with
  | .int i,.int j=>q (.bl (!decide (i = j)))
  | a,b=>okD a = true ∧ okD b = true ∧ q (.bl (!eqD a b))
theorem oe (i j:Int):eqD (.int i) (.int j) = decide (i = j):=by
  unfold eqD; rw [toP,toP,PyData.eqv]; first | rfl | (rw [Bool.beq_eq_decide_eq])
theorem gE (i:Int):okD (.int i) = true:=by unfold okD; rw [toP]; rfl
theorem dEq:DOp rEqD fEq:=fun G H x y dx dy q Q s p1 p2 hf k=>by
  have main:okD dx = true ∧ okD dy = true ∧ q (.bl (eqD dx dy)):=by
    unfold fEq at hf
    split at hf
    · exact ⟨gE _,gE _,by rw [oe]; exact hf⟩
    · exact hf
  exact ⟨dx,dy,Rep.mono s _ _ p1,Rep.mono s _ _ p2,main.1,main.2.1,k _ _ main.2.2 (bS _)⟩
theorem dNe:DOp rNeD fNe:=fun G H x y dx dy q Q s p1 p2 hf k=>by
  have main:okD dx = true ∧ okD dy = true ∧ q (.bl (!eqD dx dy)):=by
    unfold fNe at hf
    split at hf
    · exact ⟨gE _,gE _,by rw [oe]; exact hf⟩
    · exact hf
  exact ⟨dx,dy,Rep.mono s _ _ p1,Rep.mono s _ _ p2,main.1,main.2.1,k _ _ main.2.2 (bS _)⟩
def sf:D → Bool
  | .non=>true
  | _=>false
theorem gv {G:Hp} {d:D} {v:V} (h:Rep G d v):decide (v = .non) = sf d:=by
  cases d <;> rw [Rep] at h
  case non=>subst h; rfl
  case tup=>obtain ⟨a,xs,rfl,_⟩:=h; rfl
  case lst=>obtain ⟨a,xs,rfl,_⟩:=h; rfl
  case dct=>obtain ⟨a,xs,rfl,_⟩:=h; rfl
  case dic=>obtain ⟨a,xs,rfl,_⟩:=h; rfl
  case scr=>obtain ⟨a,rfl,_⟩:=h; rfl
  case ext=>obtain ⟨a,H0,rfl,_⟩:=h; rfl
  all_goals subst h; rfl
def fIsN:D → D → (D → Prop) → Prop:=fun a b q=>match b with
  | .non=>q (.bl (sf a))
  | _=>False
def u5:D → D → (D → Prop) → Prop:=fun a b q=>match b with
  | .non=>q (.bl (!sf a))
  | _=>False
theorem dIsN:DOp (fun x y H Q=>y = .non ∧ Q (.bl (decide (x = .non))) H) fIsN:=fun G H x y dx dy q Q s p1 p2 hf k=>by
  unfold fIsN at hf
  split at hf
  · rw [Rep] at p2; exact ⟨p2,by rw [gv p1]; exact k _ _ hf (bS _)⟩
  · exact hf.elim
theorem dNotN:DOp (fun x y H Q=>y = .non ∧ Q (.bl (!decide (x = .non))) H) u5:=fun G H x y dx dy q Q s p1 p2 hf k=>by
  unfold u5 at hf
  split at hf
  · rw [Rep] at p2; exact ⟨p2,by rw [gv p1]; exact k _ _ hf (bS _)⟩
  · exact hf.elim
def fIsB:D → D → (D → Prop) → Prop:=fun a b q=>match a,b with
  | .bl x,.bl y=>q (.bl (x == y))
  | _,_=>False
def dM:D → Bool
  | .non=>true
  | .bl _=>true
  | .int _=>true
  | .str _=>true
  | _=>false
def eqF:D → D → Bool
  | .non,.non=>true
  | .bl a,.bl b=>a == b
  | .bl a,.int b=>(if a then 1 else 0) == b
  | .int a,.bl b=>a == (if b then 1 else 0)
  | .int a,.int b=>a == b
  | .str a,.str b=>a == b
  | _,_=>false
def toV:D → V
  | .non=>.non
  | .bl b=>.bl b
  | .int i=>.int i
  | .str x=>.str x
  | _=>.non
theorem eF {G:Hp} {d:D} {v:V} (h:Rep G d v) (f:dM d = true):v = toV d:=by
  cases d <;> first | (rw [Rep] at h; exact h) | cases f
theorem tf:∀ {a b:D},dM a = true → dM b = true → eqV (toV a) (toV b) = eqF a b:=by
  intro a b f g
  cases a <;> cases b <;> first | rfl | exact absurd f Bool.false_ne_true | exact absurd g Bool.false_ne_true
theorem gl {d:D} (f:dM d = true):ff (toV d) = true:=by
  cases d <;> first | rfl | cases f
theorem dL {G:Hp}:∀ {ds:List D} {xs:List V},Reps G ds xs → ds.all dM = true → xs = ds.map toV
  | [],xs,h,_=>by rw [Reps] at h; subst h; rfl
  | d :: ds,xs,h,f=>by
    rw [Reps] at h
    obtain ⟨v,vs,rfl,h1,h2⟩:=h
    rw [List.all_cons,Bool.and_eq_true] at f
    rw [eF h1 f.1,dL h2 f.2]; rfl
def inD (a:D) (ds:List D):Bool:=ds.any fun y=>eqF y a
theorem jY {a:D} (f:dM a = true):∀ {ds:List D},ds.all dM = true → inV (toV a) (ds.map toV) = inD a ds
  | [],_=>rfl
  | d :: ds,g=>by
    rw [List.all_cons,Bool.and_eq_true] at g
    have:=jY f g.2
    unfold inV inD at *
    rw [List.map_cons,List.any_cons,List.any_cons,tf g.1 f,this]
theorem iq:∀ {ds:List D},ds.all dM = true → (ds.map toV).all ff = true
  | [],_=>rfl
  | d :: ds,g=>by
    rw [List.all_cons,Bool.and_eq_true] at g
    rw [List.map_cons,List.all_cons,gl g.1,iq g.2]; rfl
def fIn (neg:Bool):D → D → (D → Prop) → Prop:=fun a b q=>match b with
  | .lst ds=>dM a = true ∧ ds.all dM = true ∧ q (.bl (if neg then !inD a ds else inD a ds))
  | .tup ds=>dM a = true ∧ ds.all dM = true ∧ q (.bl (if neg then !inD a ds else inD a ds))
  | _=>False
theorem dIn {K:PySem.W.Frag} {neg:Bool}:DOp (rIn K neg) (fIn neg):=fun G H x y dx dy q Q s p1 p2 hf k=>by
  unfold fIn at hf
  split at hf
  · rw [Rep] at p2
    obtain ⟨a,xs,rfl,h1,h2⟩:=p2
    obtain ⟨f1,f2,hq⟩:=hf
    refine ⟨a,xs,rfl,.inl (SqL.of (s _ _ h1)),?_,?_,?_⟩
    · rw [eF p1 f1]; exact gl f1
    · rw [dL h2 f2]; exact iq f2
    · rw [eF p1 f1,dL h2 f2,jY f1 f2]; exact k _ _ hq (bS _)
  · rw [Rep] at p2
    obtain ⟨a,xs,rfl,h1,h2⟩:=p2
    obtain ⟨f1,f2,hq⟩:=hf
    refine ⟨a,xs,rfl,.inr (SqT.of (s _ _ h1)),?_,?_,?_⟩
    · rw [eF p1 f1]; exact gl f1
    · rw [dL h2 f2]; exact iq f2
    · rw [eF p1 f1,dL h2 f2,jY f1 f2]; exact k _ _ hq (bS _)
  · exact hf.elim
def atD (ds:List D) (i:Int) (q:D → Prop):Prop:=match atI ds i with
  | some d=>q d
  | none=>False
def fIx (K:PySem.W.Frag):D → D → (D → Prop) → Prop:=fun a b q=>match a,b with
  | .lst ds,.int i=>atD ds i q
  | .tup ds,.int i=>atD ds i q
  | .scr φ ns,.int i=>(∀ a H,φ a → SqL K H a (ns.map V.int)) ∧ match atI ns i with
    | some n=>q (.int n)
    | none=>False
  | _,_=>False
theorem dq {G:Hp}:∀ {ds:List D} {xs:List V} {j:Nat} {d:D},Reps G ds xs → ds[j]? = some d → ∃ v,xs[j]? = some v ∧ Rep G d v
  | [],_,_,_,_,e=>by simp at e
  | d :: ds,xs,0,e,h,q=>by rw [Reps] at h; obtain ⟨v,vs,rfl,h1,_⟩:=h; simp at q; subst q; exact ⟨v,rfl,h1⟩
  | d :: ds,xs,j + 1,e,h,q=>by
    rw [Reps] at h
    obtain ⟨v,vs,rfl,_,h2⟩:=h
    obtain ⟨u,e1,e2⟩:=dq (j:=j) h2 (by simpa using q)
    exact ⟨u,by simpa using e1,e2⟩
theorem lG {G:Hp} {ds:List D} {xs:List V} {i:Int} {d:D} (h:Reps G ds xs) (e:atI ds i = some d):∃ v,atI xs i = some v ∧ Rep G d v:=by
  unfold atI at *
  rw [h.length]
  cases q:ixN ds.length i with
  | none=>rw [q] at e; cases e
  | some j=>rw [q] at e; exact dq h e
theorem tM {α β:Type} {f : α → β} {xs:List α} {i:Int} {x : α} (h:atI xs i = some x):atI (xs.map f) i = some (f x):=by
  unfold atI at *
  rw [List.length_map]
  cases q:ixN xs.length i with
  | none=>rw [q] at h; cases h
  | some j=>rw [q] at h; rw [show (Option.some j).bind _ = (xs.map f)[j]? from rfl,List.getElem?_map,show xs[j]? = some x from h]; rfl
theorem dIx {K:PySem.W.Frag}:DOp (rIx K) (fIx K):=fun G H x y dx dy q Q s p1 p2 hf k=>by
  unfold fIx at hf
  split at hf
  · rw [Rep] at p1
    obtain ⟨a,xs,rfl,h1,h2⟩:=p1
    unfold atD at hf
    split at hf
    · rename_i e
      obtain ⟨v,e1,e2⟩:=lG h2 e
      exact .inl ⟨a,xs,_,v,rfl,aG p2,SqL.of (s _ _ h1),e1,k _ _ hf e2⟩
    · exact hf.elim
  · rw [Rep] at p1
    obtain ⟨a,xs,rfl,h1,h2⟩:=p1
    unfold atD at hf
    split at hf
    · rename_i e
      obtain ⟨v,e1,e2⟩:=lG h2 e
      exact .inr (.inl ⟨a,xs,_,v,rfl,aG p2,SqT.of (s _ _ h1),e1,k _ _ hf e2⟩)
    · exact hf.elim
  · rw [Rep] at p1
    obtain ⟨a,rfl,h1⟩:=p1
    obtain ⟨hk,hf⟩:=hf
    split at hf
    · rename_i e
      refine .inl ⟨a,_,_,_,rfl,aG p2,?_,tM e,k _ _ hf (bq _)⟩
      rcases h1 with ⟨o,h1⟩ | h1
      · exact .inl (.inr ⟨o,s _ _ h1⟩)
      · exact hk a H h1
    · exact hf.elim
  · exact hf.elim
def fLen (K:PySem.W.Frag):List D → (D → Prop) → Prop:=fun ds q=>match ds with
  | [.lst ds]=>q (.int ds.length)
  | [.tup ds]=>q (.int ds.length)
  | [.scr φ ns]=>(∀ a H,φ a → SqL K H a (ns.map V.int)) ∧ q (.int ns.length)
  | _=>False
theorem a6 {G:Hp} {ds:List D} {v:V} (h:Rep G (.lst ds) v):∃ a xs,v = .ref a ∧ G a = some (.lst xs) ∧ Reps G ds xs:=by rw [Rep] at h; exact h
theorem dZ {G:Hp} {ds:List D} {v:V} (h:Rep G (.tup ds) v):∃ a xs,v = .ref a ∧ G a = some (.tup xs) ∧ Reps G ds xs:=by rw [Rep] at h; exact h
theorem mZ {G:Hp} {φ:Addr → Prop} {ns:List Int} {v:V} (h:Rep G (.scr φ ns) v):∃ a,v = .ref a ∧ ((∃ o,G a = some (.frz o (.lst (ns.map V.int)))) ∨ φ a):=by rw [Rep] at h; exact h
theorem bI {G:Hp} {d:D} {xs:List V} (h:Reps G [d] xs):∃ v,xs = [v] ∧ Rep G d v:=by
  rw [Reps] at h; obtain ⟨v,vs,rfl,h1,h2⟩:=h; rw [Reps] at h2; subst h2; exact ⟨v,rfl,h1⟩
theorem dY {G:Hp} {d e:D} {xs:List V} (h:Reps G [d,e] xs):∃ v u,xs = [v,u] ∧ Rep G d v ∧ Rep G e u:=by
  rw [Reps] at h; obtain ⟨v,vs,rfl,h1,h2⟩:=h; obtain ⟨u,rfl,h3⟩:=bI h2; exact ⟨v,u,rfl,h1,h3⟩
theorem b3 {K:PySem.W.Frag}:gC (fun xs H Q=>∃ p ys,xs = [.ref p] ∧ (SqL K H p ys ∨ SqT K H p ys) ∧ Q (.int ys.length) H) (fLen K):=fun G H xs ds q Q s p hf k=>by
  unfold fLen at hf
  split at hf
  · obtain ⟨v,rfl,p1⟩:=bI p
    obtain ⟨a,xs,rfl,h1,h2⟩:=a6 p1
    exact ⟨a,xs,rfl,.inl (SqL.of (s _ _ h1)),by rw [h2.length]; exact k _ _ hf (bq _)⟩
  · obtain ⟨v,rfl,p1⟩:=bI p
    obtain ⟨a,xs,rfl,h1,h2⟩:=dZ p1
    exact ⟨a,xs,rfl,.inr (SqT.of (s _ _ h1)),by rw [h2.length]; exact k _ _ hf (bq _)⟩
  · obtain ⟨v,rfl,p1⟩:=bI p
    obtain ⟨a,rfl,h1⟩:=mZ p1
    rename_i φ ns
    have hS:SqL K H a (ns.map V.int):=by
      rcases h1 with ⟨o,h1⟩ | h1
      · exact .inl (.inr ⟨o,s _ _ h1⟩)
      · exact hf.1 a H h1
    exact ⟨a,_,rfl,.inl hS,by rw [List.length_map]; exact k _ _ hf.2 (bq _)⟩
  · exact hf.elim
def fMax:List D → (D → Prop) → Prop:=fun ds q=>match ds with
  | [.int i,.int j]=>q (.int (if j > i then j else i))
  | _=>False
def fMin:List D → (D → Prop) → Prop:=fun ds q=>match ds with
  | [.int i,.int j]=>q (.int (if j < i then j else i))
  | _=>False
theorem dMax:gC (fun xs H Q=>∃ i j,xs = [.int i,.int j] ∧ Q (.int (if j > i then j else i)) H) fMax:=fun G H xs ds q Q s p hf k=>by
  unfold fMax at hf
  split at hf
  · obtain ⟨v,u,rfl,p1,p2⟩:=dY p
    rw [aG p1,aG p2]
    exact ⟨_,_,rfl,k _ _ hf (bq _)⟩
  · exact hf.elim
theorem dMin:gC (fun xs H Q=>∃ i j,xs = [.int i,.int j] ∧ Q (.int (if j < i then j else i)) H) fMin:=fun G H xs ds q Q s p hf k=>by
  unfold fMin at hf
  split at hf
  · obtain ⟨v,u,rfl,p1,p2⟩:=dY p
    rw [aG p1,aG p2]
    exact ⟨_,_,rfl,k _ _ hf (bq _)⟩
  · exact hf.elim
def uJ:List D → (D → Prop) → Prop:=fun ds q=>match ds with
  | [.int i]=>q (.int i)
  | [.bl k]=>q (.int (if k then 1 else 0))
  | _=>False
theorem uo:gC (fun xs H Q=>(∃ i,xs = [.int i] ∧ Q (.int i) H) ∨ ∃ k,xs = [.bl k] ∧ Q (.int (if k then 1 else 0)) H) uJ:=fun G H xs ds q Q s p hf k=>by
  unfold uJ at hf
  split at hf
  · obtain ⟨v,rfl,p1⟩:=bI p
    rw [aG p1]
    exact .inl ⟨_,rfl,k _ _ hf (bq _)⟩
  · obtain ⟨v,rfl,p1⟩:=bI p
    rw [b9 p1]
    exact .inr ⟨_,rfl,k _ _ hf (bq _)⟩
  · exact hf.elim
def fAbs:List D → (D → Prop) → Prop:=fun ds q=>match ds with
  | [.int i]=>q (.int (if i < 0 then -i else i))
  | _=>False
theorem dAbs:gC (fun xs H Q=>∃ i,xs = [.int i] ∧ Q (.int (if i < 0 then -i else i)) H) fAbs:=fun G H xs ds q Q s p hf k=>by
  unfold fAbs at hf
  split at hf
  · obtain ⟨v,rfl,p1⟩:=bI p
    rw [aG p1]
    exact ⟨_,rfl,k _ _ hf (bq _)⟩
  · exact hf.elim
section
variable {X:Cx} {ow:List Bool} {a b c e:Expr} {ma mb mc:ME} {pos:Pos} {mr:MA} {es:List Expr}
def mNeg (m:ME):ME:=fun ρ q=>m ρ fun d ρ'=>match d with
  | .int i=>q (.int (-i)) ρ'
  | _=>False
theorem rG (h:QE X ow a ma):QE X ow (.UnaryOp .USub a pos) (mNeg ma):=by
  obtain ⟨t,p,s⟩:=h
  refine ⟨_,pe_un vQ p,fun C G ρ σ H pd q Q r hm k=>s C G ρ σ H pd _ _ r hm fun d ρ' v G' H' hq s kp r' p=>?_⟩
  cases d with
  | int i=>exact ⟨i,aG p,k _ ρ' _ G' H' hq s kp r' (bq _)⟩
  | _=>exact hq.elim
def mIsT (T:String) (m:ME):ME:=fun ρ q=>m ρ fun d ρ'=>match oz d T with
  | some b=>q (.bl b) ρ'
  | none=>False
theorem cz {T:String} {x y:Str} {p1 p2:Pos} (hg:Gl X x) (hm:X.mg x = none) (hv:bootBuiltins x = some (.builtin "isinstance")) (ha:QE X ow a ma) (ht:PE X (.Name y p2) (tC (.ty T)))
    (hn:x ≠ "__name__":=by decide) (hdb:(x == ("__debug__":Str)) = false:=by decide)
    (hs:starEach [.Name y p2] X.env = [(false,eval (.Name y p2) X.env)]:=by rfl)
    (he:starEach [a,.Name y p2] X.env = (false,eval a X.env) :: starEach [.Name y p2] X.env:=by rfl) (hpl:(backTo pos (starEach [.Name y p2] X.env)).any (·.1) = false:=by rfl) :
    QE X ow (.Call (.Name x p1) [a,.Name y p2] [] pos) (mIsT T ma):=by
  obtain ⟨t,p,s⟩:=ha
  refine ⟨_,fD lE hg hm hv (bK p (bK ht cO hs) he) hn hdb he hpl,fun C G ρ σ H pd q Q r hm k=>s C G ρ σ H pd _ _ r hm fun d ρ' v G' H' hq s kp r' p=>?_⟩
  cases e:oz d T with
  | none=>rw [e] at hq; exact hq.elim
  | some b=>rw [e] at hq; exact ⟨v,T,d,b,rfl,Rep.mono r'.gh _ _ p,e,k _ ρ' _ G' H' hq s kp r' (bS _)⟩
def pT (f g:D → D → (D → Prop) → Prop) (ma mb mc:ME):ME:=fun ρ q=>ma ρ fun x ρ1=>mb ρ1 fun y ρ2=>f x y fun z=>match z with
  | .bl k=>if k = true then mc ρ2 fun w ρ3=>g y w fun d=>q d ρ3 else q (.bl false) ρ2
  | _=>False
theorem q8 {r r':R2} {f g:D → D → (D → Prop) → Prop} {ta tb tc:TE} (hf:DOp r f) (hg:DOp r' g) (ha:SE ow ta ma) (hb:SE ow tb mb) (hc:SE ow tc mc):SE ow (pM r r' ta tb tc) (pT f g ma mb mc):=fun C G ρ σ H pd q Q hr h k=>by
  refine iw (Q:=fun x y H2=>r x y H2 _) ha hb hr h fun dx dy ρ' x y G' H' h1 s kp r1 p1 p2=>?_
  refine hf G' H' x y dx dy _ _ r1.gh p1 p2 h1 fun d v hq p=>?_
  cases d with
  | bl b =>
    refine ⟨b,b9 p,?_⟩
    change (if b = true then _ else _) at hq
    cases b with
    | true =>
      rw [if_pos rfl] at hq ⊢
      refine hc C G' ρ' σ H' pd _ _ r1 hq fun dw ρ3 w G3 H3 h3 s3 kp3 r3 p3=>?_
      exact hg G3 H3 y w dy dw _ _ r3.gh (Rep.mono s3 _ _ p2) p3 h3 fun d v hq p=>k d ρ3 v G3 H3 hq (s.trans s3) (kp.trans kp3) r3 p
    | false=>rw [if_neg (by decide)] at hq ⊢; exact k _ ρ' _ G' H' hq s kp r1 (bS _)
  | _=>exact hq.elim
theorem g9 {op op':CmpOp} {r r':R2} {f g:D → D → (D → Prop) → Prop} (ho:OpR X (compareOp op) r) (ho':OpR X (compareOp op') r') (hf:DOp r f) (hg:DOp r' g) (ha:QE X ow a ma) (hb:QE X ow b mb) (hc:QE X ow c mc)
    (hm:lastMarks [op,op'] [b,c] = false:=by with_unfolding_all rfl):QE X ow (.Compare a [op,op'] [b,c] pos) (pT f g ma mb mc):=by
  obtain ⟨ta,pa,sa⟩:=ha; obtain ⟨tb,pb,sb⟩:=hb; obtain ⟨tc,pc,sc⟩:=hc
  exact ⟨_,rj ho ho' pa pb pc hm,q8 hf hg sa sb sc⟩
def ge (r:List V → Hp → VK → Prop) (f:List D → (List D → Prop) → Prop):Prop:=∀ (G H:Hp) (xs:List V) (ds:List D) (q:List D → Prop) (Q:VK),aJ G H → Reps G ds xs → f ds q →
  (∀ es ys p,q es → Reps G es ys → H p = none → Q (.ref p) (upd H p (.lst ys))) → r xs H Q
def mNew (f:List D → (List D → Prop) → Prop) (m:MA):ME:=fun ρ q=>m ρ fun ds ρ'=>f ds fun es=>imms es = true ∧ q (.lst es) ρ'
def qD (f:List D → (List D → Prop) → Prop) (m:MA):ME:=fun ρ q=>m ρ fun ds ρ'=>f ds fun es=>q (.lst es) ρ'
theorem l9 {r:List V → Hp → VK → Prop} {f:List D → (List D → Prop) → Prop} {t:TA} {n:Nat} (hd:ge r f) (s:SA ow n t mr):SF ow (fun σ H Q=>t σ H fun xs H1=>r xs H1 Q) (mNew f mr):=fun C G ρ σ H pd q Q hr hm k =>
  s C G ρ σ H pd _ _ hr hm fun ds ρ' vs G' H' hq z kp r' p hn=>hd G' H' vs ds _ _ r'.gh p hq fun es ys a hq p ha=>by
    obtain ⟨O,r'⟩:=r'
    exact k _ ρ' _ _ _ hq.2 z kp (r'.newL ha hq.1 p)
theorem pJ {r:List V → Hp → VK → Prop} {f:List D → (List D → Prop) → Prop} {t:TA} {n:Nat} (hd:ge r f) (s:SA ow n t mr):SE ow (fun σ H Q=>t σ H fun xs H1=>r xs H1 Q) (qD f mr):=fun C G ρ σ H pd q Q hr hm k =>
  s C G ρ σ H pd _ _ hr hm fun ds ρ' vs G' H' hq z kp r' p hn=>hd G' H' vs ds _ _ r'.gh p hq fun es ys a hq p ha=>by
    obtain ⟨O,r'⟩:=r'
    obtain ⟨r2,s2⟩:=r'.new ha (.lst ys)
    exact k _ ρ' _ _ _ hq (z.trans s2) kp ⟨O,r2⟩ (gH aH (Reps.mono s2 _ _ p))
theorem pS {ta tb:TE} (ha:SE ow ta ma) (hb:SE ow tb mb):SA ow 2 (fun σ H Q=>ta σ H fun x H1=>tb σ H1 fun y H2=>Q [x,y] H2) (fg ma (fg mb o6)):=fun C G ρ σ H pd q Q hr hm k =>
  iw (Q:=fun x y H2=>Q [x,y] H2) ha hb hr hm fun dx dy ρ' x y G' H' h1 s kp r1 p1 p2=>k [dx,dy] ρ' [x,y] G' H' h1 s kp r1 (bA p1 (bA p2 bN)) rfl
theorem fw {G:Hp}:∀ {ds es:List D} {xs ys:List V},Reps G ds xs → Reps G es ys → Reps G (ds ++ es) (xs ++ ys)
  | [],es,xs,ys,h,h2=>by rw [Reps] at h; subst h; exact h2
  | d :: ds,es,xs,ys,h,h2=>by rw [Reps] at h; obtain ⟨v,vs,rfl,h1,h3⟩:=h; exact bA h1 (fw h3 h2)
theorem jy {G:Hp}:∀ {ds:List D} {xs:List V} (n:Nat),Reps G ds xs → Reps G (ds.drop n) (xs.drop n)
  | [],xs,n,h=>by rw [Reps] at h; subst h; simp; exact bN
  | d :: ds,xs,0,h=>h
  | d :: ds,xs,n + 1,h=>by rw [Reps] at h; obtain ⟨v,vs,rfl,h1,h3⟩:=h; exact jy n h3
theorem jh {G:Hp}:∀ {ds:List D} {xs:List V} (n:Nat),Reps G ds xs → Reps G (ds.take n) (xs.take n)
  | [],xs,n,h=>by rw [Reps] at h; subst h; simp; exact bN
  | d :: ds,xs,0,h=>by simp; exact bN
  | d :: ds,xs,n + 1,h=>by rw [Reps] at h; obtain ⟨v,vs,rfl,h1,h3⟩:=h; exact bA h1 (jh n h3)
def fCat:List D → (List D → Prop) → Prop:=fun ds q=>match ds with
  | [.lst xs,.lst ys]=>xs.length + ys.length ≤ 1000 ∧ q (xs ++ ys)
  | _=>False
theorem dCat:ge (fun xs H Q=>∃ x y,xs = [x,y] ∧ rCat x y H Q) fCat:=fun G H xs ds q Q s p hf k=>by
  unfold fCat at hf
  split at hf
  · obtain ⟨v,u,rfl,p1,p2⟩:=dY p
    rw [Rep] at p1 p2
    obtain ⟨a1,xs,rfl,h1,h2⟩:=p1
    obtain ⟨a2,ys,rfl,h3,h4⟩:=p2
    exact ⟨_,_,rfl,a1,a2,xs,ys,rfl,rfl,s _ _ h1,s _ _ h3,dz (by rw [h2.length,h4.length]; exact hf.1),fun p hp=>k _ _ p hf.2 (fw h2 h4) hp⟩
  · exact hf.elim
def mMk (f:List D → (List D → Prop) → Prop) (ma mb:ME):ME:=mNew f (fg ma (fg mb o6))
def mMkS (f:List D → (List D → Prop) → Prop) (ma mb:ME):ME:=qD f (fg ma (fg mb o6))
def R2ok (r:R2):List V → Hp → VK → Prop:=fun xs H Q=>match xs with
  | [x,y]=>r x y H Q
  | _=>False
theorem ge.r2 {r:R2} {f:List D → (List D → Prop) → Prop} (h:ge (fun xs H Q=>∃ x y,xs = [x,y] ∧ r x y H Q) f):ge (R2ok r) f:=fun G H xs ds q Q s p hf k=>by
  obtain ⟨x,y,rfl,z⟩:=h G H xs ds q Q s p hf k
  exact z
theorem qf_mk {op:Operator} {r:R2} {f:List D → (List D → Prop) → Prop} (ho:OpR X (binaryOp op) r) (hd:ge (fun xs H Q=>∃ x y,xs = [x,y] ∧ r x y H Q) f) (ha:QE X ow a ma) (hb:QE X ow b mb):QF X ow (.BinOp a op b pos) (mMk f ma mb):=by
  obtain ⟨ta,pa,sa⟩:=ha; obtain ⟨tb,pb,sb⟩:=hb
  exact ⟨tOp r ta tb,nY ho pa pb,l9 (r:=R2ok r) hd.r2 (pS sa sb)⟩
theorem pL {op:Operator} {r:R2} {f:List D → (List D → Prop) → Prop} (ho:OpR X (binaryOp op) r) (hd:ge (fun xs H Q=>∃ x y,xs = [x,y] ∧ r x y H Q) f) (ha:QE X ow a ma) (hb:QE X ow b mb):QE X ow (.BinOp a op b pos) (mMkS f ma mb):=by
  obtain ⟨ta,pa,sa⟩:=ha; obtain ⟨tb,pb,sb⟩:=hb
  exact ⟨tOp r ta tb,nY ho pa pb,pJ (r:=R2ok r) hd.r2 (pS sa sb)⟩
def uh:List D → (List D → Prop) → Prop:=fun ds q=>match ds with
  | [.lst xs]=>q xs
  | [.tup xs]=>q xs
  | _=>False
theorem lj {K:PySem.W.Frag}:ge (fun xs H Q=>∃ p ys,xs = [.ref p] ∧ (SqL K H p ys ∨ SqT K H p ys) ∧ ∀ l,H l = none → Q (.ref l) (upd H l (.lst ys))) uh:=fun G H xs ds q Q s p hf k=>by
  unfold uh at hf
  split at hf
  · obtain ⟨v,rfl,p1⟩:=bI p
    obtain ⟨a,xs,rfl,h1,h2⟩:=a6 p1
    exact ⟨a,xs,rfl,.inl (SqL.of (s _ _ h1)),fun l hl=>k _ _ l hf h2 hl⟩
  · obtain ⟨v,rfl,p1⟩:=bI p
    obtain ⟨a,xs,rfl,h1,h2⟩:=dZ p1
    exact ⟨a,xs,rfl,.inr (SqT.of (s _ _ h1)),fun l hl=>k _ _ l hf h2 hl⟩
  · exact hf.elim
variable {x:Str} {p':Pos}
theorem gf {id:String} {r:List V → Hp → VK → Prop} {f:List D → (List D → Prop) → Prop} (hc:cq X (.type id) r) (hd:ge r f) (hg:Gl X x) (hm:X.mg x = none) (hv:bootBuiltins x = some (.type id)) (ha:QA X ow (e :: es) mr) (hn:x ≠ "__name__":=by decide) (hdb:(x == ("__debug__":Str)) = false:=by decide)
    (he:starEach (e :: es) X.env = (false,eval e X.env) :: starEach es X.env:=by rfl) (hpl:(backTo pos (starEach es X.env)).any (·.1) = false:=by rfl):QF X ow (.Call (.Name x p') (e :: es) [] pos) (mNew f mr):=by
  obtain ⟨t,p,s⟩:=ha
  exact ⟨_,cZ hc hg hm hv p hn hdb he hpl,l9 hd s⟩
theorem g7 {id:String} {r:List V → Hp → VK → Prop} {f:List D → (List D → Prop) → Prop} (hc:cq X (.type id) r) (hd:ge r f) (hg:Gl X x) (hm:X.mg x = none) (hv:bootBuiltins x = some (.type id)) (ha:QA X ow (e :: es) mr) (hn:x ≠ "__name__":=by decide) (hdb:(x == ("__debug__":Str)) = false:=by decide)
    (he:starEach (e :: es) X.env = (false,eval e X.env) :: starEach es X.env:=by rfl) (hpl:(backTo pos (starEach es X.env)).any (·.1) = false:=by rfl):QE X ow (.Call (.Name x p') (e :: es) [] pos) (qD f mr):=by
  obtain ⟨t,p,s⟩:=ha
  exact ⟨_,cZ hc hg hm hv p hn hdb he hpl,pJ hd s⟩
theorem kL {id:String} {r:List V → Hp → VK → Prop} {f:List D → (List D → Prop) → Prop} (hc:cq X (.builtin id) r) (hd:ge r f) (hg:Gl X x) (hm:X.mg x = none) (hv:bootBuiltins x = some (.builtin id)) (ha:QA X ow (e :: es) mr) (hn:x ≠ "__name__":=by decide) (hdb:(x == ("__debug__":Str)) = false:=by decide)
    (he:starEach (e :: es) X.env = (false,eval e X.env) :: starEach es X.env:=by rfl) (hpl:(backTo pos (starEach es X.env)).any (·.1) = false:=by rfl):QF X ow (.Call (.Name x p') (e :: es) [] pos) (mNew f mr):=by
  obtain ⟨t,p,s⟩:=ha
  exact ⟨_,fD hc hg hm hv p hn hdb he hpl,l9 hd s⟩
def gr (xs:List D) (lo hi:Option Int):List D:=(xs.drop (HT.sIx xs.length 0 lo)).take (HT.sIx xs.length xs.length hi - HT.sIx xs.length 0 lo)
theorem kT {G:Hp} {ds:List D} {xs:List V} (h:Reps G ds xs) (lo hi:Option Int):Reps G (gr ds lo hi) (mX xs lo hi):=by
  unfold gr mX
  rw [h.length]
  exact jh _ (jy _ h)
abbrev MO:=DSt → (Option Int → DSt → Prop) → Prop
def SO (ow:List Bool) (t:TO) (m:MO):Prop:=∀ (C:Ctx) (G:Hp) (ρ:DSt) (σ:St) (H:Hp) (pd:List (D × V)) (q:Option Int → DSt → Prop) (Q:Option Int → Hp → Prop),R C ow G ρ σ H pd → m ρ q →
  (∀ b ρ' G' H',q b ρ' → aJ G G' → Kp ow ρ ρ' → R C ow G' ρ' σ H' pd → Q b H') → t σ H Q
structure QO (X:Cx) (ow:List Bool) (e:Option Expr) (m:MO):Prop where
  ex:∃ t,PO X e t ∧ SO ow t m
def sR:MO:=fun ρ q=>q none ρ
def mPart (m:ME):MO:=fun ρ q=>m ρ fun d ρ'=>match d with
  | .int i=>q (some i) ρ'
  | _=>False
theorem kI:QO X ow none sR:=⟨_,tS,fun C G ρ σ H pd q Q r h k=>k none ρ G H h (aJ.refl _) Kp.refl r⟩
theorem kf (h:QE X ow e ma):QO X ow (some e) (mPart ma):=by
  obtain ⟨t,p,s⟩:=h
  refine ⟨_,sr p,fun C G ρ σ H pd q Q r hm k=>s C G ρ σ H pd _ _ r hm fun d ρ' v G' H' hq s kp r' p=>?_⟩
  cases d with
  | int i=>exact ⟨i,aG p,k _ ρ' G' H' hq s kp r'⟩
  | _=>exact hq.elim
def mSl (m:ME) (ml mh:MO):ME:=fun ρ q=>m ρ fun d ρ1=>ml ρ1 fun lo ρ2=>mh ρ2 fun hi ρ3=>match d with
  | .lst ds=>imms (gr ds lo hi) = true ∧ q (.lst (gr ds lo hi)) ρ3
  | _=>False
def mSlS (m:ME) (ml mh:MO):ME:=fun ρ q=>m ρ fun d ρ1=>ml ρ1 fun lo ρ2=>mh ρ2 fun hi ρ3=>match d with
  | .lst ds=>q (.lst (gr ds lo hi)) ρ3
  | _=>False
variable {lo hi:Option Expr} {ml mh:MO} {p2:Pos}
theorem qA (h:QE X ow e ma) (hl:QO X ow lo ml) (hh:QO X ow hi mh):QF X ow (.Subscript e (.Slice lo hi none p2) pos) (mSl ma ml mh):=by
  obtain ⟨t,p,s⟩:=h; obtain ⟨t1,p1,s1⟩:=hl; obtain ⟨t2,p2,s2⟩:=hh
  refine ⟨_,k7 nu p p1 p2,fun C G ρ σ H pd q Q r hm k=>s C G ρ σ H pd _ _ r hm fun d ρ' v G' H' hq z kp r' p=>?_⟩
  refine s1 C G' ρ' σ H' pd _ _ r' hq fun l ρ1 G1 H1 hq1 z1 kp1 r1=>s2 C G1 ρ1 σ H1 pd _ _ r1 hq1 fun u ρ2 G2 H2 hq2 z2 kp2 r2=>?_
  cases d with
  | lst ds =>
    obtain ⟨a,xs,rfl,h1,h2⟩:=a6 (Rep.mono (z1.trans z2) _ _ p)
    refine ⟨a,xs,rfl,SqL.of (r2.gh _ _ h1),fun b hb=>?_⟩
    obtain ⟨O,r2⟩:=r2
    exact k _ ρ2 _ _ _ hq2.2 (z.trans (z1.trans z2)) (kp.trans (kp1.trans kp2)) (r2.newL hb hq2.1 (kT h2 _ _))
  | _=>exact hq2.elim
theorem kU (h:QE X ow e ma) (hl:QO X ow lo ml) (hh:QO X ow hi mh):QE X ow (.Subscript e (.Slice lo hi none p2) pos) (mSlS ma ml mh):=by
  obtain ⟨t,p,s⟩:=h; obtain ⟨t1,p1,s1⟩:=hl; obtain ⟨t2,p2,s2⟩:=hh
  refine ⟨_,k7 nu p p1 p2,fun C G ρ σ H pd q Q r hm k=>s C G ρ σ H pd _ _ r hm fun d ρ' v G' H' hq z kp r' p=>?_⟩
  refine s1 C G' ρ' σ H' pd _ _ r' hq fun l ρ1 G1 H1 hq1 z1 kp1 r1=>s2 C G1 ρ1 σ H1 pd _ _ r1 hq1 fun u ρ2 G2 H2 hq2 z2 kp2 r2=>?_
  cases d with
  | lst ds =>
    obtain ⟨a,xs,rfl,h1,h2⟩:=a6 (Rep.mono (z1.trans z2) _ _ p)
    refine ⟨a,xs,rfl,SqL.of (r2.gh _ _ h1),fun b hb=>?_⟩
    obtain ⟨O,r2⟩:=r2
    obtain ⟨r3,z3⟩:=r2.new hb (.lst (mX xs l u))
    exact k _ ρ2 _ _ _ hq2 (z.trans (z1.trans (z2.trans z3))) (kp.trans (kp1.trans kp2)) ⟨O,r3⟩ (gH aH (Reps.mono z3 _ _ (kT h2 _ _)))
  | _=>exact hq2.elim
end
def cv (f:Nat → Option Nat) (O:Own):Own:=fun a=>match O a with
  | some m=>(f m.1).map fun l=>(l,m.2)
  | none=>none
theorem nq {f:Nat → Option Nat} {O:Own} {a:Addr} {l l':Nat} {π:List Nat} (h:O a = some (l,π)) (hf:f l = some l'):cv f O a = some (l',π):=by unfold cv; rw [h]; show (f l).map _ = _; rw [hf]; rfl
theorem eT {f:Nat → Option Nat} {O:Own} {a:Addr} {l':Nat} {π:List Nat} (h:cv f O a = some (l',π)):∃ l,O a = some (l,π) ∧ f l = some l':=by
  unfold cv at h
  cases e:O a with
  | none=>rw [e] at h; cases h
  | some m =>
    rw [e] at h
    change (f m.1).map _ = _ at h
    cases e2:f m.1 with
    | none=>rw [e2] at h; cases h
    | some l=>rw [e2] at h; cases h; exact ⟨m.1,rfl,e2⟩
theorem o_ {f:Nat → Option Nat} {O:Own} {a:Addr} {l:Nat} {π:List Nat} (h:O a = some (l,π)) (hf:f l = none):cv f O a = none:=by unfold cv; rw [h]; show (f l).map _ = _; rw [hf]; rfl
def msV:List Bool → List V → List (Option V)
  | b :: bs,v :: vs=>(if b = true then some v else none) :: msV bs vs
  | _,_=>[]
theorem nb:∀ {mu:List Bool} {vs:List V} {k:Nat} {v:V},(msV mu vs)[k]? = some (some v) → mu[k]? = some true ∧ vs[k]? = some v
  | [],vs,k,v,h=>by simp [msV] at h
  | b :: bs,[],k,v,h=>by simp [msV] at h
  | b :: bs,u :: vs,0,v,h=>by
    simp only [msV,List.getElem?_cons_zero,Option.some.injEq] at h
    split at h
    · rename_i c; cases h; subst c; exact ⟨rfl,rfl⟩
    · cases h
  | b :: bs,u :: vs,k + 1,v,h=>by
    simp only [msV,List.getElem?_cons_succ] at h
    simpa using nb h
theorem lU:∀ {mu:List Bool} {vs:List V} {k:Nat} {v:V},mu[k]? = some true → vs[k]? = some v → (msV mu vs)[k]? = some (some v)
  | [],vs,k,v,h,_=>by simp at h
  | b :: bs,[],k,v,_,h=>by simp at h
  | b :: bs,u :: vs,0,v,h,h2=>by simp at h h2; subst h; subst h2; simp [msV]
  | b :: bs,u :: vs,k + 1,v,h,h2=>by simp only [msV,List.getElem?_cons_succ]; exact lU (by simpa using h) (by simpa using h2)
section
variable {C:Ctx} {ow mu:List Bool} {G:Hp} {ρ:DSt} {σ:St} {H:Hp} {pd:List (D × V)} {O:Own} {fin fbk:Nat → Option Nat}
theorem RO.into (ro:RO C ow G ρ σ H pd O) {ds:List D} {vs:List V} (hl:ds.length = vs.length)
    (hs:∀ (k:Nat) d,ds[k]? = some d → ∃ v,vs[k]? = some v ∧ if mu[k]? = some true then ∃ l,Sep G H O l d [] v ∧ fin l = some (2 * k) else Rep G d v)
    (hc:∀ l l',fin l = some l' → ∃ k,l' = 2 * k ∧ mu[k]? = some true ∧ k < vs.length) :
    RO ⟨G,H,cv fin O,msV mu vs,0⟩ mu G (ds.map some) (vs.map some) H [] (cv fin O):=by
  refine ⟨by simp [hl],ro.gh,fun _ _ e=>e,fun _ _ e=>.inl e,?_,?_,fun _ _ e _=>e,fun _ e=>e,?_,?_,trivial,Nat.le_refl _⟩
  · intro a m e
    obtain ⟨l',π⟩:=m
    obtain ⟨l,e1,e2⟩:=eT e
    obtain ⟨q1,q2,_⟩:=ro.og a _ e1
    exact ⟨q1,q2,.inr ⟨π,e⟩⟩
  · intro a l' π e
    obtain ⟨l,e1,e2⟩:=eT e
    obtain ⟨k,rfl,h2,h3⟩:=hc _ _ e2
    exact .inl ⟨k,vs[k],rfl,lU h2 (List.getElem?_eq_getElem h3)⟩
  · intro k v e
    rw [List.getElem?_map,(nb e).2]; rfl
  · intro k d e
    rw [List.getElem?_map] at e
    cases e1:ds[k]? with
    | none=>rw [e1] at e; cases e
    | some d' =>
      rw [e1] at e
      cases e
      obtain ⟨v,h1,h2⟩:=hs k d e1
      refine ⟨v,by rw [List.getElem?_map,h1]; rfl,?_⟩
      split at h2
      · rename_i c
        rw [if_pos c]
        obtain ⟨l,h3,h4⟩:=h2
        exact h3.keep (fun _ _ z=>z) fun a τ q=>⟨nq q h4,rfl⟩
      · rename_i c; rw [if_neg c]; exact h2
def mL (fin fbk:Nat → Option Nat) (O O2:Own):Own:=fun a=>match O2 a with
  | some m=>(fbk m.1).map fun l=>(l,m.2)
  | none=>match cv fin O a with
    | some _=>none
    | none=>O a
theorem RO.out (ro:RO C ow G ρ σ H pd O) {vs:List V} {G2:Hp} {ρ2:DSt} {σ2:St} {H2:Hp} {pd2 pd3:List (D × V)} {O2:Own} {ρ3:DSt} {ow2:List Bool} {np:Nat} {mv:List (Option V)}
    (ri:RO ⟨G,H,cv fin O,mv,np⟩ ow2 G2 ρ2 σ2 H2 pd2 O2) (hib:∀ l0 l' l,fin l0 = some l' → fbk l' = some l → l = l0)
    (hlen : ρ3.length = σ.length) (hnp:C.np ≤ pd3.length)
    (hS:∀ (i:Nat) d,ow[i]? ≠ some true → ρ3[i]? = some (some d) → ρ[i]? = some (some d))
    (hO:∀ (i:Nat) d,ow[i]? = some true → ρ3[i]? = some (some d) → (fin (2 * i) = none ∧ ρ[i]? = some (some d)) ∨ ∃ (k:Nat) (v:V),fbk (2 * k) = some (2 * i) ∧ ow2[k]? = some true ∧ ρ2[k]? = some (some d) ∧ σ[i]? = some (some v) ∧ σ2[k]? = some (some v))
    (hP:∀ (O3:Own),(∀ a l π,O a = some (l,π) → fin l = none → O3 a = some (l,π) ∧ H2 a = H a) → (∀ a l l' π,O2 a = some (l',π) → fbk l' = some l → O3 a = some (l,π)) → cK G G2 → bX G2 H2 O3 pd3) :
    RO C ow G2 ρ3 σ H2 pd3 (mL fin fbk O O2):=by
  have keep:∀ a l π,O a = some (l,π) → fin l = none → mL fin fbk O O2 a = some (l,π) ∧ H2 a = H a:=fun a l π e hn=>by
    have e1:=o_ (f:=fin) e hn
    obtain ⟨g,⟨xs,hx⟩,_⟩:=ro.og a _ e
    have e2:O2 a = none:=by
      cases q:O2 a with
      | none=>rfl
      | some m =>
        obtain ⟨_,_,q3⟩:=ri.og a m q
        rcases q3 with q3 | ⟨π',q3⟩
        · change H a = none at q3; rw [hx] at q3; cases q3
        · change cv fin O a = _ at q3; rw [e1] at q3; cases q3
    constructor
    · show (match O2 a with | some m=>_ | none=>_) = _
      rw [e2]
      show (match cv fin O a with | some _=>none | none=>O a) = _
      rw [e1]; exact e
    · rw [ri.fr a _ hx e1,hx]
  have come:∀ a l l' π,O2 a = some (l',π) → fbk l' = some l → mL fin fbk O O2 a = some (l,π):=fun a l l' π e hb=>by
    show (match O2 a with | some m=>_ | none=>_) = _
    rw [e]
    show (fbk l').map _ = _
    rw [hb]; rfl
  have ts:cK G G2:=(aJ.ts ri.g0)
  refine ⟨hlen,ri.gh,fun a o e=>ri.g0 a o (ro.g0 a o e),?_,?_,ro.cok,?_,fun a e=>ro.al a (ri.al a e),ro.mp,?_,hP _ keep come ts,hnp⟩
  · intro a o e
    rcases ri.gn a o e with q | q
    · exact ro.gn a o q
    · exact .inr (ro.al a q)
  · intro a m e
    change (match O2 a with | some m=>_ | none=>_) = _ at e
    cases q:O2 a with
    | some m' =>
      rw [q] at e
      change (fbk m'.1).map _ = _ at e
      cases q2:fbk m'.1 with
      | none=>rw [q2] at e; cases e
      | some l =>
        rw [q2] at e; cases e
        obtain ⟨g1,g2,g3⟩:=ri.og a m' q
        refine ⟨g1,g2,?_⟩
        rcases g3 with g3 | ⟨π',g3⟩
        · exact .inl (ro.al a g3)
        · obtain ⟨l0,g4,g5⟩:=eT g3
          have:=hib _ _ _ g5 q2
          subst this
          exact (ro.og a _ g4).2.2
    | none =>
      rw [q] at e
      change (match cv fin O a with | some _=>none | none=>O a) = _ at e
      cases q2:cv fin O a with
      | some _=>rw [q2] at e; cases e
      | none =>
        rw [q2] at e
        change O a = some m at e
        obtain ⟨g1,⟨xs,g2⟩,g3⟩:=ro.og a m e
        refine ⟨?_,⟨xs,ri.fr a _ g2 q2⟩,g3⟩
        cases z:G2 a with
        | none=>rfl
        | some o =>
          rcases ri.gn a o z with z | z
          · change G a = _ at z; rw [g1] at z; cases z
          · change H a = _ at z; rw [g2] at z; cases z
  · intro a o e n
    have q:=ro.fr a o e n
    refine ri.fr a o q ?_
    show cv fin O a = none
    cases z:cv fin O a with
    | none=>rfl
    | some m =>
      obtain ⟨l',π⟩:=m
      obtain ⟨l,z1,_⟩:=eT z
      obtain ⟨_,_,z3⟩:=ro.og a _ z1
      rcases z3 with z3 | ⟨_,z3⟩
      · rw [z3] at e; cases e
      · rw [z3] at n; cases n
  · intro i d e
    by_cases c:ow[i]? = some true
    · rcases hO i d c e with ⟨h1,h2⟩ | ⟨k,v,h1,h2,h3,h4,h5⟩
      · obtain ⟨v,q1,q2⟩:=ro.sl i d h2
        rw [if_pos c] at q2
        exact ⟨v,q1,by rw [if_pos c]; exact q2.keep ts fun a τ q=>keep a _ _ q h1⟩
      · obtain ⟨v',q1,q2⟩:=ri.sl k d h3
        rw [if_pos h2] at q2
        rw [h5] at q1; cases q1
        exact ⟨v,h4,by rw [if_pos c]; exact q2.keep (fun _ _ z=>z) fun a τ q=>⟨come _ _ _ _ q h1,rfl⟩⟩
    · obtain ⟨v,q1,q2⟩:=ro.sl i d (hS i d c e)
      rw [if_neg c] at q2
      exact ⟨v,q1,by rw [if_neg c]; exact q2.mono ri.g0⟩
end
def Ret (fr:Bool) (C:Ctx) (ow:List Bool) (G:Hp) (ρ:DSt) (σ:St) (H:Hp) (d:D) (v:V):Prop:=if fr = true then R C ow G ρ σ H [(d,v)] else R C ow G ρ σ H [] ∧ Rep G d v
def mus:List Bool → DSt → DSt
  | true :: bs,x :: ρ=>x :: mus bs ρ
  | false :: bs,_ :: ρ=>mus bs ρ
  | true :: bs,[]=>none :: mus bs []
  | false :: bs,[]=>mus bs []
  | [],_=>[]
def cQ {α:Type}:Nat → List (Option α) → List (Option α)
  | 0,_=>[]
  | n + 1,x :: ρ=>x :: cQ n ρ
  | n + 1,[]=>none :: cQ n []
theorem dQ {α:Type}:∀ (n:Nat) (ρ:List (Option α)),(cQ n ρ).length = n
  | 0,_=>rfl
  | n + 1,x :: ρ=>by simp [cQ,dQ n ρ]
  | n + 1,[]=>by simp [cQ,dQ n []]
theorem dX:∀ (mu:List Bool) (ρ:DSt),mus mu (cQ mu.length ρ) = mus mu ρ
  | [],_=>by simp [mus]
  | true :: bs,x :: ρ=>by simp [cQ,mus,dX bs ρ]
  | false :: bs,x :: ρ=>by simp [cQ,mus,dX bs ρ]
  | true :: bs,[]=>by simp [cQ,mus,dX bs []]
  | false :: bs,[]=>by simp [cQ,mus,dX bs []]
theorem kJ {α:Type}:∀ {n:Nat} {ρ:List (Option α)} {i:Nat} {d : α},(cQ n ρ)[i]? = some (some d) → i < n ∧ ρ[i]? = some (some d)
  | 0,_,_,_,h=>by simp [cQ] at h
  | n + 1,x :: ρ,0,d,h=>by simp [cQ] at h; exact ⟨by exact uH,by simp [h]⟩
  | n + 1,x :: ρ,i + 1,d,h=>by simp only [cQ,List.getElem?_cons_succ] at h; obtain ⟨a,b⟩:=kJ h; exact ⟨by exact uv a,by simpa using b⟩
  | n + 1,[],0,d,h=>by simp [cQ] at h
  | n + 1,[],i + 1,d,h=>by simp only [cQ,List.getElem?_cons_succ] at h; obtain ⟨a,b⟩:=kJ h; simp at b
theorem jV {α:Type}:∀ {n:Nat} {ρ:List (Option α)} {i:Nat} {d : α},i < n → ρ[i]? = some (some d) → (cQ n ρ)[i]? = some (some d)
  | 0,_,_,_,h,_=>by (first|lia|omega)
  | n + 1,x :: ρ,0,d,h,e=>by simp at e; simp [cQ,e]
  | n + 1,x :: ρ,i + 1,d,h,e=>by simp only [cQ,List.getElem?_cons_succ]; exact jV (by exact zo344 h) (by simpa using e)
  | n + 1,[],i,d,h,e=>by simp at e
abbrev SpD:=List D → (D → DSt → Prop) → Prop
def bt (mu:List Bool) (fr:Bool) (sd:SpD):Sp:=fun vs H Q _=>∃ (C:Ctx) (G:Hp) (ds:List D) (q:D → DSt → Prop),C.np = 0 ∧ C.mu = msV mu vs ∧ R C mu G (ds.map some) (vs.map some) H [] ∧ sd ds q ∧ mu.length = ds.length ∧
  ∀ d ρ' σ' v G' H',q d (mus mu ρ') → aJ G G' → ρ'.length = mu.length → Ret fr C mu G' ρ' σ' H' d v → Q v H'
structure EndsD where
  nx:DSt → Prop
  rt:D → DSt → Prop
  bk:DSt → Prop:=fun _=>False
  ct:DSt → Prop:=fun _=>False
abbrev MS:=EndsD → DSt → Prop
structure Ks (C:Ctx) (ow:List Bool) (fr:Bool) (G:Hp) (n:EndsD) (D:Ends):Prop where
  nx:∀ ρ σ G' H,n.nx ρ → aJ G G' → R C ow G' ρ σ H [] → D.nx σ H
  bk:∀ ρ σ G' H,n.bk ρ → aJ G G' → R C ow G' ρ σ H [] → D.bk σ H
  ct:∀ ρ σ G' H,n.ct ρ → aJ G G' → R C ow G' ρ σ H [] → D.ct σ H
  rt:∀ d ρ σ v G' H,n.rt d ρ → aJ G G' → Ret fr C ow G' ρ σ H d v → D.rt v H
theorem Ks.mono {C:Ctx} {ow:List Bool} {fr:Bool} {G G1:Hp} {n:EndsD} {D:Ends} (h:Ks C ow fr G n D) (s:aJ G G1):Ks C ow fr G1 n D :=
  ⟨fun ρ σ G' H a b c=>h.nx ρ σ G' H a (s.trans b) c,fun ρ σ G' H a b c=>h.bk ρ σ G' H a (s.trans b) c,fun ρ σ G' H a b c=>h.ct ρ σ G' H a (s.trans b) c,fun d ρ σ v G' H a b c=>h.rt d ρ σ v G' H a (s.trans b) c⟩
def gW (C:Ctx) (mu:List Bool):Prop:=∀ (i:Nat) v,C.mu[i]? = some (some v) → mu[i]? = some true
theorem gW.no {C:Ctx} {mu:List Bool} (h:gW C mu) {i:Nat} (hi:mu[i]? ≠ some true):∀ v,C.mu[i]? ≠ some (some v):=fun v e=>hi (h i v e)
structure Md where
  mu:List Bool
  ow:List Bool
  fr:Bool
def SS (M:Md) (t:TS) (m:MS):Prop:=∀ (C:Ctx) (G:Hp) (ρ:DSt) (σ:St) (H:Hp) (n:EndsD) (D:Ends),gW C M.mu → C.np = 0 → R C M.ow G ρ σ H [] → m n ρ → Ks C M.ow M.fr G n D → t D σ H
structure QS (X:Cx) (M:Md) (st:Stmt) (m:MS):Prop where
  ex:∃ t,PS X st t ∧ SS M t m
structure QSs (X:Cx) (M:Md) (st:List Stmt) (m:MS):Prop where
  ex:∃ t,PSs X st t ∧ SS M t m
section
variable {X:Cx} {M:Md} {a b c e:Expr} {ma mb mc:ME} {mt:MT} {pos pos':Pos} {st:Stmt} {rest:List Stmt} {m m1 m2:MS}
def mSeq (m1 m2:MS):MS:=fun n ρ=>m1 { n with nx:=fun ρ'=>m2 n ρ' } ρ
def mNext:MS:=fun n ρ=>n.nx ρ
theorem aQ:QSs X M [] mNext:=⟨_,sL,fun C G ρ σ H n D hm hn r h k=>k.nx ρ σ G H h (aJ.refl _) r⟩
theorem ag (h:QS X M st m):QSs X M [st] m:=by obtain ⟨t,p,s⟩:=h; exact ⟨_,sO p,s⟩
theorem ac (h:QS X M st m1) (h2:QSs X M rest m2):QSs X M (st :: rest) (mSeq m1 m2):=by
  obtain ⟨t,p,s⟩:=h; obtain ⟨t2,p2,s2⟩:=h2
  refine ⟨_,qB p p2,fun C G ρ σ H n D hm hn r h k=>s C G ρ σ H _ _ hm hn r h ?_⟩
  exact ⟨fun ρ' σ' G' H' h' z r'=>s2 C G' ρ' σ' H' n D hm hn r' h' (k.mono z),k.bk,k.ct,k.rt⟩
def xt:MS:=fun _ _=>False
theorem di:QS X M st xt:=⟨_,r9,fun C G ρ σ H n D hm hn r h k=>h.elim⟩
def mIfS (mt:MT) (m1 m2:MS):MS:=fun n ρ=>mt ρ fun b ρ1=>if b = true then m1 n ρ1 else m2 n ρ1
theorem bf {s1 s2:List Stmt} (h:QT X M.ow c mt) (h1:QSs X M s1 m1) (h2:QSs X M s2 m2):QS X M (.If c s1 s2 pos) (mIfS mt m1 m2):=by
  obtain ⟨t,p,s⟩:=h; obtain ⟨t1,p1,s1⟩:=h1; obtain ⟨t2,p2,s2⟩:=h2
  refine ⟨_,ps_if p p1 p2,fun C G ρ σ H n D hm hn r h k=>s C G ρ σ H [] _ _ r h fun b ρ' G' H' hq z kp r'=>?_⟩
  cases b with
  | true=>rw [if_pos rfl] at hq ⊢; exact s1 C G' ρ' σ H' n D hm hn r' hq (k.mono z)
  | false=>rw [if_neg (by decide)] at hq ⊢; exact s2 C G' ρ' σ H' n D hm hn r' hq (k.mono z)
def mRet (m:ME):MS:=fun n ρ=>m ρ n.rt
theorem aU (h:QE X M.ow e ma) (hf:M.fr = false:=by rfl):QS X M (.Return (some e) pos) (mRet ma):=by
  obtain ⟨t,p,s⟩:=h
  refine ⟨_,qq p,fun C G ρ σ H n D hm hn r h k=>s C G ρ σ H [] _ _ r h fun d ρ' v G' H' hq z kp r' p=>k.rt d ρ' σ v G' H' hq z (by unfold Ret; rw [if_neg (by rw [hf]; decide)]; exact ⟨r',p⟩)⟩
theorem R.non {C:Ctx} {ow:List Bool} {fr:Bool} {G:Hp} {ρ:DSt} {σ:St} {H:Hp} (r:R C ow G ρ σ H []):Ret fr C ow G ρ σ H .non .non:=by
  unfold Ret
  split
  · obtain ⟨O,r⟩:=r
    exact ⟨O,r.len,r.gh,r.g0,r.gn,r.og,r.cok,r.fr,r.al,r.mp,r.sl,⟨by rw [Sep],trivial⟩,Nat.le_succ_of_le r.np⟩
  · exact ⟨r,nT⟩
def j7 (i:Nat) (m:ME):MS:=fun n ρ=>m ρ fun d ρ1=>n.nx (ρ1.set i (some d))
theorem l7 {t:TE} {i:Nat} (s:SE M.ow t ma) (ho:M.ow[i]? ≠ some true) (hu:M.mu[i]? ≠ some true):SS M (qJ t (hV i)) (j7 i ma):=fun C G ρ σ H n D hm hn r h k =>
  s C G ρ σ H [] _ _ r h fun d ρ' v G' H' hq z kp r' p=>by
    obtain ⟨O,r'⟩:=r'
    exact k.nx _ _ G' H' hq z ⟨O,r'.setS ho (hm.no hu) p⟩
theorem j6 {t:TE} {i:Nat} (s:SF M.ow t ma) (ho:M.ow[i]? = some true) (hu:M.mu[i]? ≠ some true):SS M (qJ t (hV i)) (j7 i ma):=fun C G ρ σ H n D hm hn r h k =>
  s C G ρ σ H [] _ _ r h fun d ρ' v G' H' hq z kp r'=>by
    obtain ⟨O,r'⟩:=r'
    exact k.nx _ _ G' H' hq z (r'.setO ho (hm.no hu) (by rw [hn]; exact Nat.zero_le _))
theorem aR {i:Nat} {x:Str} (hN:X.N.Nodup) (hi:X.N[i]? = some x) (hx:Loc X.env.scope x) (he:QE X M.ow e ma) (ho:M.ow[i]? ≠ some true:=by decide) (hu:M.mu[i]? ≠ some true:=by decide) (hs:swapsWith e (some (.Name x pos')) pos.line X.env = pure false:=by rfl) (hf:X.fn x = true ∨ X.env.scope.names.lookup x = some .local:=by first | exact .inl rfl | exact .inr rfl | assumption) :
    QS X M (.Assign [.Name x pos'] e pos) (j7 i ma):=by
  obtain ⟨t,p,s⟩:=he
  exact ⟨_,mU hN hi hx p hs hf,l7 s ho hu⟩
theorem bv {i:Nat} {x:Str} (hN:X.N.Nodup) (hi:X.N[i]? = some x) (hx:Loc X.env.scope x) (he:QF X M.ow e ma) (ho:M.ow[i]? = some true:=by decide) (hu:M.mu[i]? ≠ some true:=by decide) (hs:swapsWith e (some (.Name x pos')) pos.line X.env = pure false:=by rfl) (hf:X.fn x = true ∨ X.env.scope.names.lookup x = some .local:=by first | exact .inl rfl | exact .inr rfl | assumption) :
    QS X M (.Assign [.Name x pos'] e pos) (j7 i ma):=by
  obtain ⟨t,p,s⟩:=he
  exact ⟨_,mU hN hi hx p hs hf,j6 s ho hu⟩
def mPar (i j:Nat) (ma mb:ME):MS:=fun n ρ=>ma ρ fun x ρ1=>mb ρ1 fun y ρ2=>n.nx ((ρ2.set i (some x)).set j (some y))
theorem xu {i j:Nat} {x y:Str} {px py pt:Pos} {kt k2 pt2} (hc:X.calm = true) (hN:X.N.Nodup) (hi:X.N[i]? = some x) (hj:X.N[j]? = some y) (hij:i ≠ j)
    (hx:X.env.scope.names.lookup x = some .local) (hy:X.env.scope.names.lookup y = some .local) (ha:QE X M.ow a ma) (hb:QE X M.ow b mb)
    (hw:swappedStores [.Tuple [.Name x px,.Name y py] kt pt] (.Tuple [a,b] k2 pt2) X.env = pure (some [x,y]))
    (oi:M.ow[i]? ≠ some true:=by decide) (oj:M.ow[j]? ≠ some true:=by decide) (ui:M.mu[i]? ≠ some true:=by decide) (uj:M.mu[j]? ≠ some true:=by decide)
    (hs1:starEach [a,b] X.env = (false,eval a X.env) :: starEach [b] X.env:=by rfl) (hs2:starEach [b] X.env = [(false,eval b X.env)]:=by rfl)
    (hs:swapsWithSole [.Tuple [.Name x px,.Name y py] kt pt] (.Tuple [a,b] k2 pt2) pos.line X.env = pure false:=by rfl) :
    QS X M (.Assign [.Tuple [.Name x px,.Name y py] kt pt] (.Tuple [a,b] k2 pt2) pos) (mPar i j ma mb):=by
  obtain ⟨ta,pa,sa⟩:=ha; obtain ⟨tb,pb,sb⟩:=hb
  refine ⟨_,w_ hc hN hi hj hij hx hy (bK pa (bK pb cO hs2) hs1) hw hs,fun C G ρ σ H n D hm hn r h k=>?_⟩
  refine iw (Q:=fun u w H2=>∃ v w',[u,w] = [v,w'] ∧ D.nx ((σ.set i (some v)).set j (some w')) H2) sa sb r h fun dx dy ρ' u w G' H' hq z kp r' p1 p2=>⟨u,w,rfl,?_⟩
  obtain ⟨O,r'⟩:=r'
  exact k.nx _ _ G' H' hq z ⟨O,(r'.setS oi (hm.no ui) p1).setS oj (hm.no uj) p2⟩
abbrev MG:=D → DSt → (DSt → Prop) → Prop
abbrev MGs:=List D → DSt → (DSt → Prop) → Prop
def SG (M:Md) (g:TG) (m:MG):Prop:=∀ (C:Ctx) (G:Hp) (ρ:DSt) (σ:St) (H:Hp) (pd:List (D × V)) (d:D) (v:V) (k:DSt → Prop) (K:St → Hp → Prop),gW C M.mu → R C M.ow G ρ σ H pd → Rep G d v → m d ρ k →
  (∀ ρ' σ',k ρ' → R C M.ow G ρ' σ' H pd → K σ' H) → g v σ H K
def SGs (M:Md) (g:TGs) (m:MGs):Prop:=∀ (C:Ctx) (G:Hp) (ρ:DSt) (σ:St) (H:Hp) (pd:List (D × V)) (d:List D) (v:List V) (k:DSt → Prop) (K:St → Hp → Prop),gW C M.mu → R C M.ow G ρ σ H pd → Reps G d v → m d ρ k →
  (∀ ρ' σ',k ρ' → R C M.ow G ρ' σ' H pd → K σ' H) → g v σ H K
structure QG (X:Cx) (M:Md) (e:Expr) (m:MG):Prop where
  ex:∃ t,PG X e t ∧ SG M t m
structure QGs (X:Cx) (M:Md) (e:List Expr) (m:MGs):Prop where
  ex:∃ t,PGs X e t ∧ SGs M t m
def gj (i:Nat):MG:=fun d ρ k=>k (ρ.set i (some d))
theorem az {i:Nat} {x:Str} (hN:X.N.Nodup) (hi:X.N[i]? = some x) (hx:Loc X.env.scope x) (ho:M.ow[i]? ≠ some true:=by decide) (hu:M.mu[i]? ≠ some true:=by decide) (hf:X.fn x = true ∨ X.env.scope.names.lookup x = some .local:=by first | exact .inl rfl | exact .inr rfl | assumption):QG X M (.Name x pos) (gj i) :=
  ⟨_,bc hN hi hx hf,fun C G ρ σ H pd d v k K hm r p h kk=>by obtain ⟨O,r⟩:=r; exact kk _ _ h ⟨O,r.setS ho (hm.no hu) p⟩⟩
def ni:MGs:=fun ds ρ k=>match ds with
  | []=>k ρ
  | _=>False
def ia (t:MG) (u:MGs):MGs:=fun ds ρ k=>match ds with
  | d :: ds=>t d ρ fun ρ1=>u ds ρ1 k
  | []=>False
def qw (t:MGs):MG:=fun d ρ k=>match d with
  | .tup ds=>t ds ρ k
  | _=>False
variable {mg:MG} {mgs:MGs} {es:List Expr}
theorem bC:QGs X M [] ni:=⟨_,fY,fun C G ρ σ H pd d v k K hm r p h kk=>by
  cases d with
  | nil=>rw [Reps] at p; exact ⟨p,kk _ _ h r⟩
  | cons _ _=>exact h.elim⟩
theorem aE (h1:QG X M e mg) (h2:QGs X M es mgs) (hs:(assignEach (e :: es) X.env).map (·.2) = assign e X.env :: (assignEach es X.env).map (·.2):=by rfl):QGs X M (e :: es) (ia mg mgs):=by
  obtain ⟨t,p,s⟩:=h1; obtain ⟨t2,p2,s2⟩:=h2
  refine ⟨_,ck p p2 hs,fun C G ρ σ H pd d v k K hm r p h kk=>?_⟩
  cases d with
  | nil=>exact h.elim
  | cons d ds =>
    rw [Reps] at p
    obtain ⟨v,vs,rfl,p1,p3⟩:=p
    exact ⟨v,vs,rfl,s C G ρ σ H pd d v _ _ hm r p1 h fun ρ' σ' h' r'=>s2 C G ρ' σ' H pd ds vs k K hm r' p3 h' kk⟩
def iU (n:Nat) (m:MGs):Prop:=∀ ds ρ k,m ds ρ k → ds.length = n
theorem aW:iU 0 ni:=fun ds ρ k h=>by cases ds with | nil=>rfl | cons _ _=>exact h.elim
theorem aj {n:Nat} {i:Nat} (h:iU n mgs):iU (n + 1) (ia (gj i) mgs):=fun ds ρ k q=>by
  cases ds with
  | nil=>exact q.elim
  | cons d ds=>simp [h ds _ _ q]
theorem bU {kk:Nat} {n:Nat} (hc:X.calm = true) (h:QGs X M es mgs) (ht:iU n mgs)
    (hn:(assignEach es X.env).length = n:=by rfl) (hst:(assignEach es X.env).findIdx? (·.1) = none:=by rfl):QG X M (.Tuple es kk pos) (qw mgs):=by
  obtain ⟨t,p,s⟩:=h
  refine ⟨_,ic hc p hn hst,fun C G ρ σ H pd d v k K hm r p h kk=>?_⟩
  cases d with
  | tup ds =>
    obtain ⟨a,xs,rfl,h1,h2⟩:=dZ p
    exact ⟨a,xs,rfl,SqT.of (r.gh _ _ h1),by rw [h2.length]; exact ht _ _ _ h,s C G ρ σ H pd ds xs k K hm r h2 h kk⟩
  | _=>exact h.elim
def mAsg (m:ME) (g:MG):MS:=fun n ρ=>m ρ fun d ρ1=>g d ρ1 n.nx
theorem eE {tg:Expr} (he:QE X M.ow e ma) (hg:QG X M tg mg) (hs:swapsWithSole [tg] e pos.line X.env = pure false:=by rfl) (hw:swappedStores [tg] e X.env = pure none:=by rfl)
    (h1:(assignEach [tg] X.env).map (·.2) = [assign tg X.env]:=by rfl):QS X M (.Assign [tg] e pos) (mAsg ma mg):=by
  obtain ⟨t,p,s⟩:=he; obtain ⟨t2,p2,s2⟩:=hg
  refine ⟨_,l5 p p2 hs hw h1,fun C G ρ σ H n D hm hn r h k=>s C G ρ σ H [] _ _ r h fun d ρ' v G' H' hq z kp r' p=>?_⟩
  exact s2 C G' ρ' σ H' [] d v _ _ hm r' p hq fun ρ2 σ2 h2 r2=>k.nx ρ2 σ2 G' H' h2 z r2
def mDrop (m:ME):MS:=fun n ρ=>m ρ fun _ ρ1=>n.nx ρ1
theorem dv (he:QE X M.ow e ma) (hs:swapsWith e none pos.line X.env = pure false:=by rfl):QS X M (.Expr e pos) (mDrop ma):=by
  obtain ⟨t,p,s⟩:=he
  exact ⟨_,gL p hs,fun C G ρ σ H n D hm hn r h k=>s C G ρ σ H [] _ _ r h fun d ρ' v G' H' hq z kp r' p=>k.nx ρ' σ G' H' hq z r'⟩
def nP (i:Nat) (m:ME):MS:=fun n ρ=>match ρ[i]? with
  | some (some (.lst _))=>m ρ fun d ρ1=>match ρ1[i]? with
    | some (some (.lst ds))=>ds.length < 1000 ∧ n.nx (ρ1.set i (some (.lst (ds ++ [d]))))
    | _=>False
  | _=>False
theorem bP {i:Nat} {x:Str} {apos cpos npos:Pos} (hN:X.N[i]? = some x) (he:QF X M.ow e ma) (ho:M.ow[i]? = some true:=by decide)
    (hv:Vis X.env.scope x:=by first | exact Or.inl rfl | exact Or.inr (Or.inl rfl) | exact Or.inr (Or.inr rfl)) (hd:(x == ("__debug__":Str)) = false:=by decide) (hcd:(x == ("__classdict__":Str)) = false:=by decide)
    (hbase:attributeBase (.Name x npos) "append" X.env (eval (.Name x npos) X.env) = eval (.Name x npos) X.env:=by rfl)
    (hfew:((backTo cpos (starEach [e] X.env)).all (fun x=>!x.1) && (backToKw cpos (keywordEach [] X.env)).all (fun x=>x.1.isSome)
      && decide ([e].length + ([]:List Keyword).length + (if ([]:List Keyword).isEmpty then 0 else 1) < 30)) = true:=by rfl)
    (hline:(apos.endLine == cpos.line) = true:=by rfl) (hst:starEach [e] X.env = [(false,eval e X.env)]:=by rfl)
    (hs:swapsWith (.Call (.Attribute (.Name x npos) "append" apos) [e] [] cpos) none pos.line X.env = pure false:=by rfl) :
    QS X M (.Expr (.Call (.Attribute (.Name x npos) "append" apos) [e] [] cpos) pos) (nP i ma):=by
  obtain ⟨t,p,s⟩:=he
  refine ⟨_,gL (pP PySem.F.plainAttrs_list PySem.F.slot_list_append PySem.F.type_list_append iO (d6 hN hv hd hcd) (bK p cO hst) hbase hfew hline hst (by rfl)) hs,fun C G ρ σ H n D hm hn r h k=>?_⟩
  unfold nP at h
  split at h
  · rename_i ds e1
    obtain ⟨O,ro⟩:=r
    obtain ⟨a,xs,h1,h2,_,_⟩:=ro.write e1 ho
    refine ⟨.ref a,h1,.inl ⟨rfl,xs,SqL.of h2⟩,?_⟩
    refine s C G ρ σ H [] _ _ ⟨O,ro⟩ h fun d ρ' v G' H' hq z kp r'=>?_
    split at hq
    · rename_i ds' e2
      obtain ⟨O',r'⟩:=r'
      obtain ⟨O2,r2,s2,s3⟩:=r'.join i ds'.length (by rw [hn]; exact Nat.zero_le _)
      obtain ⟨a',xs',g1,g2,g3,g4⟩:=r2.write e2 ho
      rw [h1] at g1; cases g1
      have hl:=g3.length
      refine ⟨a,xs',v,rfl,rfl,g2,by rw [hl]; exact bY (Nat.le_of_lt hq.1),?_⟩
      exact k.nx _ _ G' _ hq.2 z ⟨O2,g4 _ _ (g3.snoc (by simpa using s2))⟩
    · exact hq.elim
  · exact h.elim
def mSetI (i:Nat) (mk m:ME):MS:=fun n ρ=>m ρ fun d ρ1=>match ρ1[i]? with
  | some (some (.lst _))=>mk ρ1 fun k ρ2=>match ρ2[i]? with
    | some (some (.lst ds))=>match k with
      | .int j=>match ixN ds.length j with
        | some p=>n.nx (ρ2.set i (some (.lst (ds.set p d))))
        | none=>False
      | _=>False
    | _=>False
  | _=>False
theorem kg {i:Nat} {x:Str} {npos spos:Pos} (hN:X.N[i]? = some x) (he:QF X M.ow e ma) (hk:QE X M.ow b mb) (ho:M.ow[i]? = some true:=by decide)
    (hv:Vis X.env.scope x:=by first | exact Or.inl rfl | exact Or.inr (Or.inl rfl) | exact Or.inr (Or.inr rfl)) (hd:(x == ("__debug__":Str)) = false:=by decide) (hcd:(x == ("__classdict__":Str)) = false:=by decide)
    (ha:∀ v,assign (.Subscript (.Name x npos) b spos) X.env v = (do
      let ov ← holding [v] (eval (.Name x npos) X.env)
      let iv ← holding [v,ov] (eval b X.env)
      standAt spos
      holding [v,ov,iv] (setItem ov iv v)
      release [v,ov,iv] []):=by intro _; rfl)
    (hs:swapsWithSole [.Subscript (.Name x npos) b spos] e pos.line X.env = pure false:=by rfl) (hw:swappedStores [.Subscript (.Name x npos) b spos] e X.env = pure none:=by rfl)
    (h1:(assignEach [.Subscript (.Name x npos) b spos] X.env).map (·.2) = [assign (.Subscript (.Name x npos) b spos) X.env]:=by rfl) :
    QS X M (.Assign [.Subscript (.Name x npos) b spos] e pos) (mSetI i mb ma):=by
  obtain ⟨t,p,s⟩:=he; obtain ⟨t2,p2,s2⟩:=hk
  refine ⟨_,l5 p (xp (d6 hN hv hd hcd) p2 p7 ha) hs hw h1,fun C G ρ σ H n D hm hn r h k=>s C G ρ σ H [] _ _ r h fun d ρ' v G' H' hq z kp r'=>?_⟩
  split at hq
  · rename_i ds0 e0
    obtain ⟨O0,ro⟩:=r'
    obtain ⟨a,xs,hu,_,_,_⟩:=ro.write e0 ho
    refine ⟨.ref a,hu,?_⟩
    refine s2 C G' ρ' σ H' _ _ _ ⟨O0,ro⟩ hq fun dk ρ2 jv G2 H2 hq2 z2 kp2 r2 pj=>?_
    split at hq2
    · rename_i ds e2
      cases dk with
      | int j =>
        dsimp only at hq2
        split at hq2
        · rename_i pl e3
          obtain ⟨O',r2⟩:=r2
          obtain ⟨O2,r3,w2,w3⟩:=r2.join i pl (by rw [hn]; exact Nat.zero_le _)
          obtain ⟨a',xs',g1,g2,g3,g4⟩:=r3.write e2 ho
          rw [hu] at g1; cases g1
          refine ⟨a,xs',j,pl,rfl,aG pj,g2,by rw [g3.length]; exact e3,?_⟩
          exact k.nx _ _ G2 _ hq2 (z.trans z2) ⟨O2,g4 _ _ (g3.set (by simpa using w2))⟩
        · exact hq2.elim
      | _=>exact hq2.elim
    · exact hq2.elim
  · exact hq.elim
def wK (mt:MT) (mb:MS):MS:=fun n ρ=>∃ W:Nat → DSt → Prop,(∃ k,W k ρ) ∧ ∀ k ρ,W k ρ → mt ρ fun b ρ1 =>
  if b = true then mb { n with nx:=fun ρ'=>∃ k',k' < k ∧ W k' ρ',ct:=fun ρ'=>∃ k',k' < k ∧ W k' ρ',bk:=n.nx } ρ1 else n.nx ρ1
theorem cu {body:List Stmt} (hp:PassesOwn (model X.prog X.w) X.A X.env X.xe) (hc:QT X M.ow c mt) (hb:QSs X M body m):QS X M (.While c body [] pos) (wK mt m):=by
  obtain ⟨t,p,s⟩:=hc; obtain ⟨t2,p2,s2⟩:=hb
  refine ⟨_,sj hp p p2,fun C G ρ σ H n D hm hn r h k=>?_⟩
  obtain ⟨W,⟨k0,w0⟩,turn⟩:=h
  refine ⟨fun j σ' H'=>∃ G' ρ',aJ G G' ∧ R C M.ow G' ρ' σ' H' [] ∧ W j ρ',⟨k0,G,ρ,aJ.refl _,r,w0⟩,?_⟩
  rintro j σ' H' ⟨G',ρ',z,r',w⟩
  refine s C G' ρ' σ' H' [] _ _ r' (turn j ρ' w) fun b ρ1 G1 H1 hq z1 kp r1=>?_
  cases b with
  | true =>
    rw [if_pos rfl] at hq ⊢
    refine ⟨fun σ2 H2=>∃ j',j' < j ∧ ∃ G2 ρ2,aJ G G2 ∧ R C M.ow G2 ρ2 σ2 H2 [] ∧ W j' ρ2,fun σ2 H2 h=>h,?_⟩
    refine s2 C G1 ρ1 σ' H1 _ _ hm hn r1 hq ⟨?_,?_,?_,?_⟩
    · rintro ρ2 σ2 G2 H2 ⟨j',hj,w'⟩ z2 r2; exact ⟨j',hj,G2,ρ2,z.trans (z1.trans z2),r2,w'⟩
    · intro ρ2 σ2 G2 H2 h z2 r2; exact k.nx ρ2 σ2 G2 H2 h (z.trans (z1.trans z2)) r2
    · rintro ρ2 σ2 G2 H2 ⟨j',hj,w'⟩ z2 r2; exact ⟨j',hj,G2,ρ2,z.trans (z1.trans z2),r2,w'⟩
    · intro d ρ2 σ2 v G2 H2 h z2 r2; exact k.rt d ρ2 σ2 v G2 H2 h (z.trans (z1.trans z2)) r2
  | false=>rw [if_neg (by decide)] at hq ⊢; exact k.nx ρ1 σ' G1 H1 hq (z.trans z1) r1
def kb (J:It) (G:Hp) (ds:List D):Prop:=∀ (C:Ctx) (ow:List Bool) (G':Hp) (ρ:DSt) (σ:St) (H:Hp) (pd:List (D × V)) (i:Nat),aJ G G' → R C ow G' ρ σ H pd →
  (ds.length ≤ i → J.stop i H) ∧ ∀ d,ds[i]? = some d → J.go i H ∧ ∀ x H',J.yld i H x H' → ∃ G2,aJ G' G2 ∧ R C ow G2 ρ σ H' pd ∧ Rep G2 d x
def SI (ow:List Bool) (wi:TI) (mi:MA):Prop:=∀ (C:Ctx) (G:Hp) (ρ:DSt) (σ:St) (H:Hp) (pd:List (D × V)) (q:List D → DSt → Prop) (Q:It → Hp → Prop),R C ow G ρ σ H pd → mi ρ q →
  (∀ ds ρ' G' H' J,q ds ρ' → aJ G G' → Kp ow ρ ρ' → R C ow G' ρ' σ H' pd → kb J G' ds → Q J H') → wi σ H Q
structure QI (X:Cx) (ow:List Bool) (tg iter:Expr) (mi:MA):Prop where
  ex:∃ t,PI X tg iter t ∧ SI ow t mi
def forD (g:MG) (mb:MS) (n:EndsD) (ds:List D) (ρ:DSt):Prop:=∃ I:Nat → DSt → Prop,I 0 ρ ∧
  (∀ i d ρ,ds[i]? = some d → I i ρ → g d ρ fun ρ1=>mb { n with nx:=I (i + 1),ct:=I (i + 1),bk:=n.nx } ρ1) ∧ ∀ ρ,I ds.length ρ → n.nx ρ
def mFor (mi:MA) (g:MG) (mb:MS):MS:=fun n ρ=>mi ρ fun ds ρ1=>forD g mb n ds ρ1
theorem bH {mi:MA} {tg iter:Expr} {body:List Stmt} (hp:PassesOwn (model X.prog X.w) X.A X.env X.xe) (hc:X.calm = true) (hi:QI X M.ow tg iter mi) (hg:QG X M tg mg) (hb:QSs X M body m)
    (hs:∀ x,foldedSetIterable iter X.env x = pure x:=by intro _; rfl):QS X M (.For tg iter body [] pos) (mFor mi mg m):=by
  obtain ⟨ti,pi,si⟩:=hi; obtain ⟨tg',pg,sg⟩:=hg; obtain ⟨tb,pb,sb⟩:=hb
  refine ⟨_,vG hp hc pi pg pb hs,fun C G ρ σ H n D hm hn r h k=>si C G ρ σ H [] _ _ r h fun ds ρ0 G0 H0 J hq z0 kp r0 jo=>?_⟩
  obtain ⟨I,i0,turn,fin⟩:=hq
  refine ⟨fun i j σ' H'=>j = ds.length - i ∧ i ≤ ds.length ∧ ∃ G' ρ',aJ G0 G' ∧ R C M.ow G' ρ' σ' H' [] ∧ I i ρ',⟨_,rfl,Nat.zero_le _,G0,ρ0,aJ.refl _,r0,i0⟩,?_⟩
  rintro i j σ' H' ⟨rfl,hi,G',ρ',z,r',w⟩
  obtain ⟨st,go⟩:=jo C M.ow G' ρ' σ' H' [] i z r'
  by_cases hlt:i < ds.length
  · obtain ⟨g1,g2⟩:=go ds[i] (List.getElem?_eq_getElem hlt)
    refine .inr ⟨g1,fun σ2 H2=>∃ G2 ρ2,aJ G0 G2 ∧ R C M.ow G2 ρ2 σ2 H2 [] ∧ I (i + 1) ρ2,fun σ2 H2 h=>⟨ds.length - (i + 1),by exact zo20 hlt,rfl,hlt,h⟩,fun x H1 hy=>?_⟩
    obtain ⟨G1,z1,r1,p1⟩:=g2 x H1 hy
    refine sg C G1 ρ' σ' H1 [] ds[i] x _ _ hm r1 p1 (turn i ds[i] ρ' (List.getElem?_eq_getElem hlt) w) fun ρ2 σ2 h2 r2=>?_
    refine sb C G1 ρ2 σ2 H1 _ _ hm hn r2 h2 ⟨?_,?_,?_,?_⟩
    · intro ρ3 σ3 G3 H3 h3 z3 r3; exact ⟨G3,ρ3,z.trans (z1.trans z3),r3,h3⟩
    · intro ρ3 σ3 G3 H3 h3 z3 r3; exact k.nx ρ3 σ3 G3 H3 h3 (z0.trans (z.trans (z1.trans z3))) r3
    · intro ρ3 σ3 G3 H3 h3 z3 r3; exact ⟨G3,ρ3,z.trans (z1.trans z3),r3,h3⟩
    · intro d ρ3 σ3 v G3 H3 h3 z3 r3; exact k.rt d ρ3 σ3 v G3 H3 h3 (z0.trans (z.trans (z1.trans z3))) r3
  · have e:i = ds.length:=by exact zo64 hi hlt
    subst e
    exact .inl ⟨st (Nat.le_refl _),k.nx ρ' σ' G' H' (fin ρ' w) (z0.trans z) r'⟩
end
section
variable {X:Cx} {ow:List Bool} {a b c e tg:Expr} {ma mb mc:ME} {pos:Pos} {mr:MA} {es:List Expr}
theorem wR {K:PySem.W.Frag} {G:Hp} {p:Addr} {xs:List V} {ds:List D} (h1:G p = some (.lst xs)) (h2:Reps G ds xs):kb (Itl K p) G ds:=fun C ow G' ρ σ H pd i z r=>by
  have hp:=r.gh _ _ (z _ _ h1)
  refine ⟨fun hl=>⟨xs,SqL.of hp,by rw [h2.length]; exact hl⟩,fun d e=>?_⟩
  obtain ⟨v,e1,e2⟩:=dq h2 e
  refine ⟨⟨xs,v,SqL.of hp,e1⟩,fun x H' hy=>?_⟩
  obtain ⟨rfl,hy⟩:=hy
  have:=hy xs (SqL.of hp)
  rw [e1] at this; cases this
  exact ⟨G',aJ.refl _,r,Rep.mono z _ _ e2⟩
def miLst (m:ME):MA:=fun ρ q=>m ρ fun d ρ'=>match d with
  | .lst ds=>q ds ρ'
  | _=>False
theorem bn (h:QE X ow e ma):QI X ow tg e (miLst ma):=by
  obtain ⟨t,p,s⟩:=h
  refine ⟨_,tJ p,fun C G ρ σ H pd q Q r hm k=>s C G ρ σ H pd _ _ r hm fun d ρ' v G' H' hq z kp r' p=>?_⟩
  cases d with
  | lst ds=>obtain ⟨a,xs,rfl,h1,h2⟩:=a6 p; exact ⟨a,rfl,⟨xs,SqL.of (r'.gh _ _ h1)⟩,k ds ρ' G' H' _ hq z kp r' (wR h1 h2)⟩
  | _=>exact hq.elim
def fj (lo:Int) (n:Nat):List D:=(List.range n).map fun (i:Nat)=>.int (lo + i)
theorem cE {lo:Int} {n i:Nat} {d:D} (h:(fj lo n)[i]? = some d):i < n ∧ d = .int (lo + i):=by
  unfold fj at h
  rw [List.getElem?_map] at h
  by_cases c:i < n
  · rw [List.getElem?_range c] at h; exact ⟨c,(Option.some.inj h).symm⟩
  · rw [List.getElem?_eq_none (by simp; exact pH c)] at h; cases h
theorem bM (lo:Int) (n:Nat):(fj lo n).length = n:=by unfold fj; simp
theorem qj {G:Hp} {lo:Int} {n:Nat}:kb (Itr lo n) G (fj lo n):=fun C ow G' ρ σ H pd i z r=>by
  refine ⟨fun hl=>by rw [bM] at hl; exact hl,fun d e=>?_⟩
  obtain ⟨h1,rfl⟩:=cE e
  refine ⟨h1,fun x H' hy=>?_⟩
  obtain ⟨rfl,rfl⟩:=hy
  exact ⟨G',aJ.refl _,r,bq _⟩
def miR1 (m:MA):MA:=fun ρ q=>m ρ fun ds ρ'=>match ds with
  | [.int j]=>(-(2 ^ 62) ≤ j ∧ j < 2 ^ 62) ∧ q (fj 0 j.toNat) ρ'
  | _=>False
def miR2 (m:MA):MA:=fun ρ q=>m ρ fun ds ρ'=>match ds with
  | [.int i,.int j]=>(-(2 ^ 62) ≤ i ∧ i < 2 ^ 62 ∧ -(2 ^ 62) ≤ j ∧ j < 2 ^ 62) ∧ q (fj i (j - i).toNat) ρ'
  | _=>False
theorem cY {p:Pos} (hg:Gl X "range") (hm:X.mg "range" = none) (ha:QA X ow [a] mr) (hs:starEach [a] X.env = [(false,eval a X.env)]:=by rfl):QI X ow tg (.Call (.Name "range" p) [a] [] pos) (miR1 mr):=by
  obtain ⟨t,p,s⟩:=ha
  refine ⟨_,om hg hm p hs,fun C G ρ σ H pd q Q r hm k=>s C G ρ σ H pd _ _ r hm fun ds ρ' vs G' H' hq z kp r' p hn=>?_⟩
  split at hq
  · obtain ⟨v,rfl,p1⟩:=bI p
    rw [aG p1]
    exact ⟨_,rfl,hq.1.1,hq.1.2,k _ ρ' G' H' _ hq.2 z kp r' qj⟩
  · exact hq.elim
theorem eW {p:Pos} (hg:Gl X "range") (hm:X.mg "range" = none) (ha:QA X ow [a,b] mr) (hs:starEach [a,b] X.env = [(false,eval a X.env),(false,eval b X.env)]:=by rfl) (hs2:starEach [b] X.env = [(false,eval b X.env)]:=by rfl):QI X ow tg (.Call (.Name "range" p) [a,b] [] pos) (miR2 mr):=by
  obtain ⟨t,p,s⟩:=ha
  refine ⟨_,o0 hg hm p hs hs2,fun C G ρ σ H pd q Q r hm k=>s C G ρ σ H pd _ _ r hm fun ds ρ' vs G' H' hq z kp r' p hn=>?_⟩
  split at hq
  · obtain ⟨v,u,rfl,p1,p2⟩:=dY p
    rw [aG p1,aG p2]
    exact ⟨_,_,rfl,hq.1,k _ ρ' G' H' _ hq.2 z kp r' qj⟩
  · exact hq.elim
def oq (ds:List D):List D:=ds.mapIdx fun i d=>.tup [.int i,d]
theorem ib (ds:List D):(oq ds).length = ds.length:=by unfold oq; simp
theorem eR {ds:List D} {i:Nat} {d:D} (h:(oq ds)[i]? = some d):∃ d',ds[i]? = some d' ∧ d = .tup [.int i,d']:=by
  unfold oq at h
  rw [List.getElem?_mapIdx] at h
  cases e:ds[i]? with
  | none=>rw [e] at h; cases h
  | some d'=>rw [e] at h; exact ⟨d',rfl,(Option.some.inj h).symm⟩
theorem w6 {G:Hp} {p:Addr} {xs:List V} {ds:List D} (h1:G p = some (.lst xs)) (h2:Reps G ds xs):kb (Ite p) G (oq ds):=fun C ow G' ρ σ H pd i z r=>by
  have hp:=r.gh _ _ (z _ _ h1)
  refine ⟨fun hl=>⟨xs,hp,by rw [h2.length]; rw [ib] at hl; exact hl⟩,fun d e=>?_⟩
  obtain ⟨d',e0,rfl⟩:=eR e
  obtain ⟨v,e1,e2⟩:=dq h2 e0
  refine ⟨⟨xs,v,hp,e1⟩,fun x H' hy=>?_⟩
  obtain ⟨a,x',ha,rfl,rfl,hy⟩:=hy
  have:=hy xs hp
  rw [e1] at this; cases this
  obtain ⟨O,r⟩:=r
  obtain ⟨r2,s2⟩:=r.new ha (.tup [.int i,v])
  exact ⟨_,s2,⟨O,r2⟩,jQ aH (bA (bq _) (bA (Rep.mono (z.trans s2) _ _ e2) bN))⟩
def miEnu (m:MA):MA:=fun ρ q=>m ρ fun ds ρ'=>match ds with
  | [.lst ds]=>q (oq ds) ρ'
  | _=>False
theorem fC {k:Nat} {tpos p:Pos} (hg:Gl X "enumerate") (hm:X.mg "enumerate" = none) (ha:QA X ow [a] mr) (hs:starEach [a] X.env = [(false,eval a X.env)]:=by rfl):QI X ow (.Tuple es k tpos) (.Call (.Name "enumerate" p) [a] [] pos) (miEnu mr):=by
  obtain ⟨t,p,s⟩:=ha
  refine ⟨_,tQ hg hm p hs,fun C G ρ σ H pd q Q r hm k=>s C G ρ σ H pd _ _ r hm fun ds ρ' vs G' H' hq z kp r' p hn=>?_⟩
  split at hq
  · obtain ⟨v,rfl,p1⟩:=bI p
    obtain ⟨a,xs,rfl,h1,h2⟩:=a6 p1
    exact ⟨a,rfl,⟨xs,r'.gh _ _ h1⟩,k _ ρ' G' H' _ hq z kp r' (w6 h1 h2)⟩
  · exact hq.elim
def t5 (i:Nat):ME:=fun ρ q=>match ρ[i]? with
  | some (some d)=>q d (ρ.set i none)
  | _=>False
end
inductive AK where
  | s | m (i:Nat) | t
def AK.isM:AK → Bool
  | .s=>false
  | _=>true
def gZ (G:Hp) (σ:St):List AK → List D → List V → List (D × V) → Prop
  | [],[],[],[]=>True
  | .s :: ks,d :: ds,v :: vs,T=>Rep G d v ∧ gZ G σ ks ds vs T
  | .m i :: ks,_ :: ds,v :: vs,T=>σ[i]? = some (some v) ∧ gZ G σ ks ds vs T
  | .t :: ks,d :: ds,v :: vs,x :: T=>x = (d,v) ∧ gZ G σ ks ds vs T
  | _,_,_,_=>False
def SAk (ow:List Bool) (ks:List AK) (t:TA) (m:MA):Prop:=∀ (C:Ctx) (G:Hp) (ρ:DSt) (σ:St) (H:Hp) (pd:List (D × V)) (q:List D → DSt → Prop) (Q:List V → Hp → Prop),R C ow G ρ σ H pd → m ρ q →
  (∀ ds ρ' vs T G' H',q ds ρ' → aJ G G' → Kp ow ρ ρ' → R C ow G' ρ' σ H' (T.reverse ++ pd) → gZ G' σ ks ds vs T → Q vs H') → t σ H Q
structure QAk (X:Cx) (ow:List Bool) (ks:List AK) (es:List Expr) (m:MA):Prop where
  ex:∃ t,PA X es t ∧ SAk ow ks t m
section
variable {X:Cx} {ow:List Bool} {a b c e tg:Expr} {ma mb mc:ME} {pos:Pos} {mr:MA} {es:List Expr} {ks:List AK}
theorem ar:QAk X ow [] [] o6:=⟨_,cO,fun C G ρ σ H pd q Q r h k=>k [] ρ [] [] G H h (aJ.refl _) Kp.refl r trivial⟩
theorem ao (ha:QE X ow e ma) (hr:QAk X ow ks es mr) (hs:starEach (e :: es) X.env = (false,eval e X.env) :: starEach es X.env:=by rfl):QAk X ow (.s :: ks) (e :: es) (fg ma mr):=by
  obtain ⟨t,p,s⟩:=ha; obtain ⟨t2,p2,s2⟩:=hr
  refine ⟨_,bK p p2 hs,fun C G ρ σ H pd q Q r hm k=>s C G ρ σ H pd _ _ r hm fun d ρ' v G' H' hq z kp r' p=>?_⟩
  exact s2 C G' ρ' σ H' pd _ _ r' hq fun ds ρ2 vs T G2 H2 hq2 z2 kp2 r2 p2=>k (d :: ds) ρ2 (v :: vs) T G2 H2 hq2 (z.trans z2) (kp.trans kp2) r2 ⟨Rep.mono z2 _ _ p,p2⟩
theorem qk_t (ha:QF X ow e ma) (hr:QAk X ow ks es mr) (hs:starEach (e :: es) X.env = (false,eval e X.env) :: starEach es X.env:=by rfl):QAk X ow (.t :: ks) (e :: es) (fg ma mr):=by
  obtain ⟨t,p,s⟩:=ha; obtain ⟨t2,p2,s2⟩:=hr
  refine ⟨_,bK p p2 hs,fun C G ρ σ H pd q Q r hm k=>s C G ρ σ H pd _ _ r hm fun d ρ' v G' H' hq z kp r'=>?_⟩
  exact s2 C G' ρ' σ H' _ _ _ r' hq fun ds ρ2 vs T G2 H2 hq2 z2 kp2 r2 p2=>k (d :: ds) ρ2 (v :: vs) ((d,v) :: T) G2 H2 hq2 (z.trans z2) (kp.trans kp2) (by simpa using r2) ⟨rfl,p2⟩
def qv (i:Nat) (r:MA):MA:=fun ρ q=>match ρ[i]? with
  | some (some _)=>r ρ fun ds ρ2=>q (.non :: ds) ρ2
  | _=>False
theorem dO (i:Nat) {x:Str} (hr:QAk X ow ks es mr) (hN:X.N[i]? = some x:=by rfl) (hv:Vis X.env.scope x:=by first | exact Or.inl rfl | exact Or.inr (Or.inl rfl) | exact Or.inr (Or.inr rfl)) (hd:(x == ("__debug__":Str)) = false:=by decide)
    (hcd:(x == ("__classdict__":Str)) = false:=by decide) (hs:starEach (.Name x pos :: es) X.env = (false,eval (.Name x pos) X.env) :: starEach es X.env:=by rfl):QAk X ow (.m i :: ks) (.Name x pos :: es) (qv i mr):=by
  obtain ⟨t2,p2,s2⟩:=hr
  refine ⟨_,bK (d6 hN hv hd hcd) p2 hs,fun C G ρ σ H pd q Q r hm k=>?_⟩
  unfold qv at hm
  split at hm
  · rename_i d e
    obtain ⟨O,ro⟩:=r
    obtain ⟨v,h1,_⟩:=ro.sl i d e
    exact ⟨v,h1,s2 C G ρ σ H pd _ _ ⟨O,ro⟩ hm fun ds ρ2 vs T G2 H2 hq2 z2 kp2 r2 p2=>k (.non :: ds) ρ2 (v :: vs) T G2 H2 hq2 z2 kp2 r2 ⟨h1,p2⟩⟩
  · exact hm.elim
def dJ:List AK → List D → DSt → Option (List D)
  | [],[],_=>some []
  | .s :: ks,d :: ds,ρ=>(dJ ks ds ρ).map (d :: ·)
  | .t :: ks,d :: ds,ρ=>(dJ ks ds ρ).map (d :: ·)
  | .m i :: ks,_ :: ds,ρ=>match ρ[i]? with
    | some (some d)=>(dJ ks ds ρ).map (d :: ·)
    | _=>none
  | _,_,_=>none
def lbs:List AK → Nat → List (Option Nat)
  | [],_=>[]
  | .s :: ks,r=>none :: lbs ks r
  | .m i :: ks,r=>some (2 * i) :: lbs ks r
  | .t :: ks,r=>some (2 * r + 1) :: lbs ks (r + 1)
def aM:List AK → List Nat
  | []=>[]
  | .m i :: ks=>i :: aM ks
  | _ :: ks=>aM ks
def fnd (l:Nat):List (Option Nat) → Nat → Option Nat
  | [],_=>none
  | x :: xs,k=>if x = some l then some k else fnd l xs (k + 1)
theorem rl {l:Nat}:∀ {xs:List (Option Nat)} {k j:Nat},fnd l xs k = some j → ∃ i,j = k + i ∧ xs[i]? = some (some l)
  | [],_,_,h=>by cases h
  | x :: xs,k,j,h=>by
    unfold fnd at h
    split at h
    · rename_i c; cases h; exact ⟨0,rfl,by simp [c]⟩
    · obtain ⟨i,rfl,e⟩:=rl h; exact ⟨i + 1,by exact kD,by simpa using e⟩
theorem lv {l:Nat}:∀ {xs:List (Option Nat)} {k:Nat},(∀ i:Nat,xs[i]? ≠ some (some l)) → fnd l xs k = none
  | [],_,_=>rfl
  | x :: xs,k,h=>by
    unfold fnd
    rw [if_neg (fun c=>h 0 (by simp [c]))]
    exact lv fun i=>by simpa using h (i + 1)
theorem qQ {l:Nat}:∀ {xs:List (Option Nat)} {k i:Nat},(∀ (i j:Nat) (l:Nat),xs[i]? = some (some l) → xs[j]? = some (some l) → i = j) → xs[i]? = some (some l) → fnd l xs k = some (k + i)
  | [],_,_,_,h=>by simp at h
  | x :: xs,k,i,u,h=>by
    unfold fnd
    by_cases c:x = some l
    · rw [if_pos c]
      have:=u 0 i l (by simp [c]) h
      subst this; rfl
    · rw [if_neg c]
      cases i with
      | zero=>simp at h; exact absurd h c
      | succ i =>
        have:=qQ (k:=k + 1) (i:=i) (fun i j l a b=>by have:=u (i + 1) (j + 1) l (by simpa using a) (by simpa using b); exact zo315 this) (by simpa using h)
        rw [this]; congr 1; exact kD
theorem cU:∀ {ks:List AK} {r:Nat} {i l:Nat},(lbs ks r)[i]? = some (some l) → (∃ j ∈ aM ks,l = 2 * j) ∨ ∃ j,r ≤ j ∧ l = 2 * j + 1
  | [],_,_,_,h=>by simp [lbs] at h
  | .s :: ks,r,0,l,h=>by simp [lbs] at h
  | .s :: ks,r,i + 1,l,h=>by simp only [lbs,List.getElem?_cons_succ] at h; have:=cU (ks:=ks) h; simpa [aM] using this
  | .m j :: ks,r,0,l,h=>by simp [lbs] at h; exact .inl ⟨j,by simp [aM],h.symm⟩
  | .m j :: ks,r,i + 1,l,h=>by
    simp only [lbs,List.getElem?_cons_succ] at h
    rcases cU h with ⟨z,h1,h2⟩ | h
    · exact .inl ⟨z,by simp [aM,h1],h2⟩
    · exact .inr h
  | .t :: ks,r,0,l,h=>by simp [lbs] at h; exact .inr ⟨r,Nat.le_refl _,h.symm⟩
  | .t :: ks,r,i + 1,l,h=>by
    simp only [lbs,List.getElem?_cons_succ] at h
    rcases cU h with ⟨z,h1,h2⟩ | ⟨j,h1,h2⟩
    · exact .inl ⟨z,by simpa [aM] using h1,h2⟩
    · exact .inr ⟨j,by exact zo77 h1,h2⟩
theorem fN:∀ {ks:List AK} {r:Nat},(aM ks).Nodup → ∀ (i j l:Nat),(lbs ks r)[i]? = some (some l) → (lbs ks r)[j]? = some (some l) → i = j
  | [],_,_,i,j,l,h,_=>by simp [lbs] at h
  | .s :: ks,r,nd,0,j,l,h,_=>by simp [lbs] at h
  | .s :: ks,r,nd,i + 1,0,l,_,h=>by simp [lbs] at h
  | .s :: ks,r,nd,i + 1,j + 1,l,h,h2=>by simp only [lbs,List.getElem?_cons_succ] at h h2; rw [fN (ks:=ks) (by simpa [aM] using nd) i j l h h2]
  | .m a :: ks,r,nd,0,0,l,_,_=>rfl
  | .m a :: ks,r,nd,0,j + 1,l,h,h2=>by
    simp only [lbs,List.getElem?_cons_succ] at h2; simp [lbs] at h
    simp only [aM,List.nodup_cons] at nd
    rcases cU h2 with ⟨z,h3,h4⟩ | ⟨z,h3,h4⟩
    · exact absurd h3 (by rw [show z = a by exact zo92 h h4]; exact nd.1)
    · exact zo297 h h4
  | .m a :: ks,r,nd,i + 1,0,l,h2,h=>by
    simp only [lbs,List.getElem?_cons_succ] at h2; simp [lbs] at h
    simp only [aM,List.nodup_cons] at nd
    rcases cU h2 with ⟨z,h3,h4⟩ | ⟨z,h3,h4⟩
    · exact absurd h3 (by rw [show z = a by exact zo92 h h4]; exact nd.1)
    · exact zo298 h h4
  | .m a :: ks,r,nd,i + 1,j + 1,l,h,h2=>by
    simp only [aM,List.nodup_cons] at nd
    simp only [lbs,List.getElem?_cons_succ] at h h2; rw [fN (ks:=ks) nd.2 i j l h h2]
  | .t :: ks,r,nd,0,0,l,_,_=>rfl
  | .t :: ks,r,nd,0,j + 1,l,h,h2=>by
    simp only [lbs,List.getElem?_cons_succ] at h2; simp [lbs] at h
    rcases cU h2 with ⟨z,h3,h4⟩ | ⟨z,h3,h4⟩ <;> (first|lia|omega)
  | .t :: ks,r,nd,i + 1,0,l,h2,h=>by
    simp only [lbs,List.getElem?_cons_succ] at h2; simp [lbs] at h
    rcases cU h2 with ⟨z,h3,h4⟩ | ⟨z,h3,h4⟩ <;> (first|lia|omega)
  | .t :: ks,r,nd,i + 1,j + 1,l,h,h2=>by simp only [lbs,List.getElem?_cons_succ] at h h2; rw [fN (ks:=ks) (by simpa [aM] using nd) i j l h h2]
end
theorem eV {G H:Hp} {O:Own}:∀ {T pd:List (D × V)},bX G H O (T ++ pd) → bX G H O pd
  | [],_,h=>h
  | _ :: T,_,h=>eV (T:=T) h.2
theorem kw {G H:Hp} {O:Own}:∀ {T pd:List (D × V)} {j:Nat} {x:D × V},bX G H O (T.reverse ++ pd) → T[j]? = some x → Sep G H O (2 * (pd.length + j) + 1) x.1 [] x.2
  | [],_,_,_,_,e=>by simp at e
  | y :: T,pd,j,x,h,e=>by
    have h':bX G H O (T.reverse ++ (y :: pd)):=by simpa using h
    cases j with
    | zero=>simp at e; subst e; exact (eV h').1
    | succ j =>
      have:=kw (j:=j) h' (by simpa using e)
      rw [show pd.length + (j + 1) = (y :: pd).length + j by simp; exact zo324]
      exact this
theorem gF {G H:Hp} {O:Own} {σ:St} {ρ:DSt}:∀ {ks:List AK} {ds ds':List D} {vs:List V} {T:List (D × V)} {r:Nat},gZ G σ ks ds vs T → dJ ks ds ρ = some ds' →
    (∀ (j:Nat) x,T[j]? = some x → Sep G H O (2 * (r + j) + 1) x.1 [] x.2) → (∀ i ∈ aM ks,∀ d,ρ[i]? = some (some d) → ∃ v,σ[i]? = some (some v) ∧ Sep G H O (2 * i) d [] v) →
    ds'.length = vs.length ∧ vs.length = ks.length ∧ ∀ (k:Nat) d,ds'[k]? = some d → ∃ v,vs[k]? = some v ∧ ((∃ l,(lbs ks r)[k]? = some (some l) ∧ (ks.map AK.isM)[k]? = some true ∧ Sep G H O l d [] v) ∨ ((ks.map AK.isM)[k]? = some false ∧ Rep G d v))
  | [],[],ds',[],[],r,_,hf,_,_=>by simp [dJ] at hf; subst hf; exact ⟨rfl,rfl,fun k d e=>by simp at e⟩
  | .s :: ks,d :: ds,ds',v :: vs,T,r,h,hf,hT,hS=>by
    rw [dJ] at hf
    cases e:dJ ks ds ρ with
    | none=>rw [e] at hf; cases hf
    | some es =>
      rw [e] at hf; cases hf
      obtain ⟨l1,l2,ih⟩:=gF (ks:=ks) h.2 e hT (fun i hi=>hS i (by simpa [aM] using hi))
      refine ⟨by simp [l1],by simp [l2],fun k d' e'=>?_⟩
      cases k with
      | zero=>simp at e'; subst e'; exact ⟨v,rfl,.inr ⟨rfl,h.1⟩⟩
      | succ k=>obtain ⟨u,g1,g2⟩:=ih k d' (by simpa using e'); exact ⟨u,by simpa using g1,by simpa [lbs] using g2⟩
  | .m i :: ks,d :: ds,ds',v :: vs,T,r,h,hf,hT,hS=>by
    rw [dJ] at hf
    cases e0 : ρ[i]? with
    | none=>rw [e0] at hf; cases hf
    | some o =>
      cases o with
      | none=>rw [e0] at hf; cases hf
      | some d0 =>
        rw [e0] at hf
        dsimp only at hf
        cases e:dJ ks ds ρ with
        | none=>rw [e] at hf; cases hf
        | some es =>
          rw [e] at hf; cases hf
          obtain ⟨l1,l2,ih⟩:=gF (ks:=ks) h.2 e hT (fun i hi=>hS i (by simp [aM,hi]))
          refine ⟨by simp [l1],by simp [l2],fun k d' e'=>?_⟩
          cases k with
          | zero =>
            simp at e'; subst e'
            obtain ⟨u,g1,g2⟩:=hS i (by simp [aM]) d0 e0
            rw [h.1] at g1; cases g1
            exact ⟨v,rfl,.inl ⟨2 * i,by simp [lbs],rfl,g2⟩⟩
          | succ k=>obtain ⟨u,g1,g2⟩:=ih k d' (by simpa using e'); exact ⟨u,by simpa using g1,by simpa [lbs] using g2⟩
  | .t :: ks,d :: ds,ds',v :: vs,x :: T,r,h,hf,hT,hS=>by
    rw [dJ] at hf
    cases e:dJ ks ds ρ with
    | none=>rw [e] at hf; cases hf
    | some es =>
      rw [e] at hf; cases hf
      obtain ⟨l1,l2,ih⟩:=gF (ks:=ks) (r:=r + 1) h.2 e (fun j x e=>by rw [show r + 1 + j = r + (j + 1) by exact kD]; exact hT (j + 1) x (by simpa using e)) (fun i hi=>hS i (by simpa [aM] using hi))
      refine ⟨by simp [l1],by simp [l2],fun k d' e'=>?_⟩
      cases k with
      | zero =>
        simp at e'; subst e'
        have:=hT 0 x rfl
        rw [h.1] at this
        exact ⟨v,rfl,.inl ⟨2 * r + 1,by simp [lbs],rfl,this⟩⟩
      | succ k=>obtain ⟨u,g1,g2⟩:=ih k d' (by simpa using e'); exact ⟨u,by simpa using g1,by simpa [lbs] using g2⟩
  | [],_ :: _,_,_,_,_,h,_,_,_=>h.elim
  | [],[],_,_ :: _,_,_,h,_,_,_=>h.elim
  | [],[],_,[],_ :: _,_,h,_,_,_=>h.elim
  | .s :: _,[],_,_,_,_,h,_,_,_=>h.elim
  | .s :: _,_ :: _,_,[],_,_,h,_,_,_=>h.elim
  | .m _ :: _,[],_,_,_,_,h,_,_,_=>h.elim
  | .m _ :: _,_ :: _,_,[],_,_,h,_,_,_=>h.elim
  | .t :: _,[],_,_,_,_,h,_,_,_=>h.elim
  | .t :: _,_ :: _,_,[],_,_,h,_,_,_=>h.elim
  | .t :: _,_ :: _,_,_ :: _,[],_,h,_,_,_=>h.elim
theorem e8 {G:Hp} {σ:St}:∀ {ks:List AK} {ds:List D} {vs:List V} {T:List (D × V)} {k i:Nat},gZ G σ ks ds vs T → ks[k]? = some (.m i) → ∃ v,vs[k]? = some v ∧ σ[i]? = some (some v)
  | [],_,_,_,k,i,_,e=>by simp at e
  | .s :: ks,d :: ds,v :: vs,T,0,i,h,e=>by simp at e
  | .s :: ks,d :: ds,v :: vs,T,k + 1,i,h,e=>by obtain ⟨u,g1,g2⟩:=e8 (k:=k) h.2 (by simpa using e); exact ⟨u,by simpa using g1,g2⟩
  | .m j :: ks,d :: ds,v :: vs,T,0,i,h,e=>by simp at e; subst e; exact ⟨v,rfl,h.1⟩
  | .m j :: ks,d :: ds,v :: vs,T,k + 1,i,h,e=>by obtain ⟨u,g1,g2⟩:=e8 (k:=k) h.2 (by simpa using e); exact ⟨u,by simpa using g1,g2⟩
  | .t :: ks,d :: ds,v :: vs,x :: T,0,i,h,e=>by simp at e
  | .t :: ks,d :: ds,v :: vs,x :: T,k + 1,i,h,e=>by obtain ⟨u,g1,g2⟩:=e8 (k:=k) h.2 (by simpa using e); exact ⟨u,by simpa using g1,g2⟩
  | .s :: _,[],_,_,_,_,h,_=>h.elim
  | .s :: _,_ :: _,[],_,_,_,h,_=>h.elim
  | .m _ :: _,[],_,_,_,_,h,_=>h.elim
  | .m _ :: _,_ :: _,[],_,_,_,h,_=>h.elim
  | .t :: _,[],_,_,_,_,h,_=>h.elim
  | .t :: _,_ :: _,[],_,_,_,h,_=>h.elim
  | .t :: _,_ :: _,_ :: _,[],_,_,h,_=>h.elim
def ca:List AK → DSt → DSt → DSt
  | .m i :: ks,x :: ρ2,ρ=>ca ks ρ2 (ρ.set i x)
  | _ :: ks,_ :: ρ2,ρ=>ca ks ρ2 ρ
  | _,_,ρ=>ρ
def iD:List AK → DSt → DSt → DSt
  | .s :: ks,os,ρ=>iD ks os ρ
  | .m i :: ks,o :: os,ρ=>iD ks os (ρ.set i o)
  | .t :: ks,_ :: os,ρ=>iD ks os ρ
  | _,_,ρ=>ρ
theorem gP:∀ {ks:List AK} {ρ2 ρ:DSt},ρ2.length = ks.length → iD ks (mus (ks.map AK.isM) ρ2) ρ = ca ks ρ2 ρ
  | [],[],ρ,_=>rfl
  | .s :: ks,x :: ρ2,ρ,h=>by simp only [List.map,AK.isM,mus,iD,ca]; exact gP (by simpa using h)
  | .m i :: ks,x :: ρ2,ρ,h=>by simp only [List.map,AK.isM,mus,iD,ca]; exact gP (by simpa using h)
  | .t :: ks,x :: ρ2,ρ,h=>by simp only [List.map,AK.isM,mus,iD,ca]; exact gP (by simpa using h)
theorem fS:∀ {ks:List AK} {ρ2 ρ:DSt},(ca ks ρ2 ρ).length = ρ.length
  | [],_,_=>by simp [ca]
  | .s :: ks,[],_=>by simp [ca]
  | .m i :: ks,[],_=>by simp [ca]
  | .t :: ks,[],_=>by simp [ca]
  | .s :: ks,x :: ρ2,ρ=>by simp only [ca]; exact fS
  | .m i :: ks,x :: ρ2,ρ=>by simp only [ca]; rw [fS]; simp
  | .t :: ks,x :: ρ2,ρ=>by simp only [ca]; exact fS
theorem fA:∀ {ks:List AK} {ρ2 ρ:DSt} {i:Nat},i ∉ aM ks → (ca ks ρ2 ρ)[i]? = ρ[i]?
  | [],_,_,_,_=>by simp [ca]
  | .s :: ks,[],_,_,_=>by simp [ca]
  | .m i :: ks,[],_,_,_=>by simp [ca]
  | .t :: ks,[],_,_,_=>by simp [ca]
  | .s :: ks,x :: ρ2,ρ,i,h=>by simp only [ca]; exact fA (by simpa [aM] using h)
  | .t :: ks,x :: ρ2,ρ,i,h=>by simp only [ca]; exact fA (by simpa [aM] using h)
  | .m j :: ks,x :: ρ2,ρ,i,h=>by
    simp only [ca]
    simp only [aM,List.mem_cons,not_or] at h
    rw [fA h.2,List.getElem?_set_ne (Ne.symm h.1)]
theorem fX:∀ {ks:List AK} {ρ2 ρ:DSt} {i:Nat} {d:D},(ca ks ρ2 ρ)[i]? = some (some d) → ρ2.length = ks.length → (i ∉ aM ks ∧ ρ[i]? = some (some d)) ∨ ∃ k:Nat,ks[k]? = some (.m i) ∧ ρ2[k]? = some (some d)
  | [],[],ρ,i,d,h,_=>.inl ⟨by simp [aM],by simpa [ca] using h⟩
  | .s :: ks,x :: ρ2,ρ,i,d,h,hl=>by
    simp only [ca] at h
    rcases fX h (by simpa using hl) with ⟨h1,h2⟩ | ⟨k,h1,h2⟩
    · exact .inl ⟨by simpa [aM] using h1,h2⟩
    · exact .inr ⟨k + 1,by simpa using h1,by simpa using h2⟩
  | .t :: ks,x :: ρ2,ρ,i,d,h,hl=>by
    simp only [ca] at h
    rcases fX h (by simpa using hl) with ⟨h1,h2⟩ | ⟨k,h1,h2⟩
    · exact .inl ⟨by simpa [aM] using h1,h2⟩
    · exact .inr ⟨k + 1,by simpa using h1,by simpa using h2⟩
  | .m j :: ks,x :: ρ2,ρ,i,d,h,hl=>by
    simp only [ca] at h
    rcases fX h (by simpa using hl) with ⟨h1,h2⟩ | ⟨k,h1,h2⟩
    · rcases dE h2 with ⟨rfl,rfl⟩ | ⟨h3,h4⟩
      · exact .inr ⟨0,rfl,rfl⟩
      · exact .inl ⟨by simp [aM,h1,h3],h4⟩
    · exact .inr ⟨k + 1,by simpa using h1,by simpa using h2⟩
theorem nA:∀ {ks:List AK} {r k i:Nat},ks[k]? = some (.m i) → (lbs ks r)[k]? = some (some (2 * i))
  | [],_,_,_,e=>by simp at e
  | .s :: ks,r,0,i,e=>by simp at e
  | .s :: ks,r,k + 1,i,e=>by simp only [lbs,List.getElem?_cons_succ]; exact nA (by simpa using e)
  | .m j :: ks,r,0,i,e=>by simp at e; subst e; simp [lbs]
  | .m j :: ks,r,k + 1,i,e=>by simp only [lbs,List.getElem?_cons_succ]; exact nA (by simpa using e)
  | .t :: ks,r,0,i,e=>by simp at e
  | .t :: ks,r,k + 1,i,e=>by simp only [lbs,List.getElem?_cons_succ]; exact nA (by simpa using e)
theorem fo:∀ {ks:List AK} {r k l:Nat},(lbs ks r)[k]? = some (some l) → (ks.map AK.isM)[k]? = some true
  | [],_,_,_,e=>by simp [lbs] at e
  | .s :: ks,r,0,i,e=>by simp [lbs] at e
  | .s :: ks,r,k + 1,i,e=>by simp only [lbs,List.getElem?_cons_succ] at e; simp only [List.map,List.getElem?_cons_succ]; exact fo e
  | .m j :: ks,r,0,i,e=>rfl
  | .m j :: ks,r,k + 1,i,e=>by simp only [lbs,List.getElem?_cons_succ] at e; simp only [List.map,List.getElem?_cons_succ]; exact fo e
  | .t :: ks,r,0,i,e=>rfl
  | .t :: ks,r,k + 1,i,e=>by simp only [lbs,List.getElem?_cons_succ] at e; simp only [List.map,List.getElem?_cons_succ]; exact fo e
theorem sF {ks:List AK} {k i:Nat} (h:ks[k]? = some (.m i)):i ∈ aM ks:=by
  induction ks generalizing k with
  | nil=>simp at h
  | cons x ks ih =>
    cases k with
    | zero=>simp at h; subst h; simp [aM]
    | succ k=>have:=ih (by simpa using h); cases x <;> simp [aM,this]
theorem lP {C:Ctx} {ow:List Bool} {G:Hp} {ρ:DSt} {σ:St} {H:Hp} {pd T:List (D × V)} {ks:List AK} {ds ds':List D} {vs:List V} {fr:Bool} {sd:SpD} {q:D → DSt → Prop} {Q:VK} {E:XK}
    (hn:C.np ≤ pd.length) (r:R C ow G ρ σ H (T.reverse ++ pd)) (ha:gZ G σ ks ds vs T) (hf:dJ ks ds ρ = some ds') (nd:(aM ks).Nodup) (hw:∀ i ∈ aM ks,ow[i]? = some true)
    (h:sd ds' fun d os=>q d (iD ks os ρ))
    (k:∀ d ρ' v G' H',q d ρ' → aJ G G' → Kp ow ρ ρ' → (if fr = true then R C ow G' ρ' σ H' ((d,v) :: pd) else R C ow G' ρ' σ H' pd ∧ Rep G' d v) → Q v H'):bt (ks.map AK.isM) fr sd vs H Q E:=by
  obtain ⟨O,ro⟩:=r
  have pn:=ro.pn
  obtain ⟨l1,l2,hat⟩:=gF (O:=O) (H:=H) (r:=pd.length) ha hf (fun j x e=>kw pn e) (fun i hi d e=>by
    obtain ⟨v,h1,h2⟩:=ro.sl i d e; rw [if_pos (hw i hi)] at h2; exact ⟨v,h1,h2⟩)
  let lb:=lbs ks pd.length
  let fin:Nat → Option Nat:=fun l=>(fnd l lb 0).map (2 * ·)
  let fbk:Nat → Option Nat:=fun l=>if l = 1 then some (2 * pd.length + 1) else if l % 2 = 0 then (match lb[l / 2]? with | some o=>o | none=>none) else none
  have uq:=fN (ks:=ks) (r:=pd.length) nd
  have fin_at:∀ (i l:Nat),lb[i]? = some (some l) → fin l = some (2 * i):=fun i l e=>by
    show (fnd l lb 0).map _ = _
    rw [qQ uq e]; simp
  have fin_of:∀ l l',fin l = some l' → ∃ i,l' = 2 * i ∧ lb[i]? = some (some l):=fun l l' e=>by
    change (fnd l lb 0).map _ = _ at e
    cases z:fnd l lb 0 with
    | none=>rw [z] at e; cases e
    | some j=>rw [z] at e; cases e; obtain ⟨i,rfl,e2⟩:=rl z; exact ⟨i,by show 2 * (0 + i) = 2 * i; exact zo288,e2⟩
  have fin_none:∀ l,(∀ i:Nat,lb[i]? ≠ some (some l)) → fin l = none:=fun l e=>by
    show (fnd l lb 0).map _ = _
    rw [lv e]; rfl
  have ri:=ro.into (mu:=ks.map AK.isM) (fin:=fin) (ds:=ds') (vs:=vs) l1 (fun j d e=>by
    obtain ⟨v,h1,h2⟩:=hat j d e
    refine ⟨v,h1,?_⟩
    rcases h2 with ⟨l,h2,h3,h4⟩ | ⟨h2,h3⟩
    · rw [if_pos h3]; exact ⟨l,h4,fin_at j l h2⟩
    · rw [if_neg (by rw [h2]; decide)]; exact h3) (fun l l' e=>by
    obtain ⟨i,rfl,e2⟩:=fin_of l l' e
    exact ⟨i,rfl,fo e2,by have:=(List.getElem?_eq_some_iff.mp (fo e2)).1; rw [List.length_map] at this; exact vc l2 this⟩)
  refine ⟨_,G,ds',fun d os=>q d (iD ks os ρ),rfl,rfl,⟨_,ri⟩,h,by rw [List.length_map,l1,l2],?_⟩
  intro d ρ2 σ2 v G2 H2 hq z hl hr
  rw [List.length_map] at hl
  rw [gP hl] at hq
  have out:∀ (pd2 pd3:List (D × V)) (O2:Own),RO ⟨G,H,cv fin O,msV (ks.map AK.isM) vs,0⟩ (ks.map AK.isM) G2 ρ2 σ2 H2 pd2 O2 → C.np ≤ pd3.length →
      (∀ (O3:Own),(∀ a l π,O a = some (l,π) → fin l = none → O3 a = some (l,π) ∧ H2 a = H a) → (∀ a l l' π,O2 a = some (l',π) → fbk l' = some l → O3 a = some (l,π)) → cK G G2 → bX G2 H2 O3 pd3) →
      RO C ow G2 (ca ks ρ2 ρ) σ H2 pd3 (mL fin fbk O O2):=fun pd2 pd3 O2 r2 hn3 hP=>by
    refine ro.out (vs:=vs) r2 ?_ (by rw [fS]; exact ro.len) hn3 ?_ ?_ hP
    · intro l0 l' l e1 e2
      obtain ⟨i,rfl,e3⟩:=fin_of l0 l' e1
      change (if 2 * i = 1 then _ else if 2 * i % 2 = 0 then _ else _) = _ at e2
      rw [if_neg (by exact ud),if_pos (by exact p9),show 2 * i / 2 = i by exact zo3,e3] at e2
      exact (Option.some.inj e2).symm
    · intro i d c e
      rcases fX e hl with ⟨_,h2⟩ | ⟨k,h1,_⟩
      · exact h2
      · exact absurd (hw i (sF h1)) c
    · intro i d c e
      rcases fX e hl with ⟨h1,h2⟩ | ⟨j,h1,h2⟩
      · refine .inl ⟨fin_none _ fun j e=>?_,h2⟩
        rcases cU e with ⟨z,h3,h4⟩ | ⟨z,h3,h4⟩
        · exact h1 (by rw [show i = z by exact zo149 h4]; exact h3)
        · exact zo280 h4
      · obtain ⟨u,g1,g2⟩:=e8 ha h1
        have im:(ks.map AK.isM)[j]? = some true:=by rw [List.getElem?_map,h1]; rfl
        refine .inr ⟨j,u,?_,im,h2,g2,r2.mp j u (lU im g1)⟩
        show (if 2 * j = 1 then _ else if 2 * j % 2 = 0 then _ else _) = _
        rw [if_neg (by exact ud),if_pos (by exact p9),show 2 * j / 2 = j by exact zo3,nA h1]
  have pdk:∀ (O3:Own),(∀ a l π,O a = some (l,π) → fin l = none → O3 a = some (l,π) ∧ H2 a = H a) → cK G G2 → bX G2 H2 O3 pd:=fun O3 h1 ts =>
    bX.keep ts (fun a j π hj e=>h1 a _ _ e (fin_none _ fun i e=>by
      rcases cU e with ⟨z,h3,h4⟩ | ⟨z,h3,h4⟩ <;> (first|lia|omega))) (eV (T:=T.reverse) pn)
  have kp:Kp ow ρ (ca ks ρ2 ρ):=fun j hj=>fA fun hs=>hj (hw j hs)
  refine k d (ca ks ρ2 ρ) v G2 H2 hq z kp ?_
  unfold Ret at hr
  split at hr
  · rename_i c
    rw [if_pos c]
    obtain ⟨O2,r2⟩:=hr
    refine ⟨_,out _ ((d,v) :: pd) O2 r2 (Nat.le_succ_of_le hn) fun O3 h1 h2 ts=>⟨?_,pdk O3 h1 ts⟩⟩
    exact r2.pn.1.keep (fun _ _ z=>z) fun a τ e=>⟨h2 a _ _ _ e (by show (if 2 * 0 + 1 = 1 then _ else _) = _; rw [if_pos rfl]),rfl⟩
  · rename_i c
    rw [if_neg c]
    obtain ⟨⟨O2,r2⟩,p⟩:=hr
    exact ⟨⟨_,out _ pd O2 r2 hn fun O3 h1 h2 ts=>pdk O3 h1 ts⟩,p⟩
section
variable {X:Cx} {ow:List Bool} {a b c e tg:Expr} {ma mb mc:ME} {pos p':Pos} {mr:MA} {es:List Expr} {ks:List AK} {x:Str}
def uB (ks:List AK) (sd:SpD) (m:MA):ME:=fun ρ q=>m ρ fun ds ρ1=>match dJ ks ds ρ1 with
  | some ds'=>sd ds' fun d os=>q d (iD ks os ρ1)
  | none=>False
theorem av {k:Nat} {f:Addr} {fd:FuncData} {ps:List Str} {mu:List Bool} {sd:SpD} (F:FnOk X.prog X.w X.K X.mg X.base CX0 k f fd ps (bt mu false sd)) (hr:Room k X.A) (hg:Gl X x) (hm:X.mg x = some (.ref f)) (hk:PySem.W.keepIn X.K (.ref f) = true) (hb:aY X.K fd ps [])
    (ha:QAk X ow ks (e :: es) mr) (hmu:mu = ks.map AK.isM:=by rfl) (nd:(aM ks).Nodup:=by decide) (hw:∀ i ∈ aM ks,ow[i]? = some true:=by decide) (hdb:(x == ("__debug__":Str)) = false:=by decide)
    (he:starEach (e :: es) X.env = (false,eval e X.env) :: starEach es X.env:=by rfl) (hpl:(backTo pos (starEach es X.env)).any (·.1) = false:=by rfl):QE X ow (.Call (.Name x p') (e :: es) [] pos) (uB ks sd mr):=by
  obtain ⟨t,p,s⟩:=ha
  subst hmu
  refine ⟨_,nG F hr hg hm hk hb .nil u4 p hdb he hpl,fun C G ρ σ H pd q Q r hm k=>s C G ρ σ H pd _ _ r hm fun ds ρ' vs T G' H' hq z kp r' p=>?_⟩
  rw [List.append_nil]
  split at hq
  · rename_i ds' ef
    exact lP (fr:=false) r.np r' p ef nd hw hq fun d ρ2 v G2 H2 hq2 z2 kp2 h2=>by
      rw [if_neg (by decide)] at h2
      exact k d ρ2 v G2 H2 hq2 (z.trans z2) (kp.trans kp2) h2.1 h2.2
  · exact hq.elim
theorem bj {k:Nat} {f:Addr} {fd:FuncData} {ps:List Str} {mu:List Bool} {sd:SpD} (F:FnOk X.prog X.w X.K X.mg X.base CX0 k f fd ps (bt mu true sd)) (hr:Room k X.A) (hg:Gl X x) (hm:X.mg x = some (.ref f)) (hk:PySem.W.keepIn X.K (.ref f) = true) (hb:aY X.K fd ps [])
    (ha:QAk X ow ks (e :: es) mr) (hmu:mu = ks.map AK.isM:=by rfl) (nd:(aM ks).Nodup:=by decide) (hw:∀ i ∈ aM ks,ow[i]? = some true:=by decide) (hdb:(x == ("__debug__":Str)) = false:=by decide)
    (he:starEach (e :: es) X.env = (false,eval e X.env) :: starEach es X.env:=by rfl) (hpl:(backTo pos (starEach es X.env)).any (·.1) = false:=by rfl):QF X ow (.Call (.Name x p') (e :: es) [] pos) (uB ks sd mr):=by
  obtain ⟨t,p,s⟩:=ha
  subst hmu
  refine ⟨_,nG F hr hg hm hk hb .nil u4 p hdb he hpl,fun C G ρ σ H pd q Q r hm k=>s C G ρ σ H pd _ _ r hm fun ds ρ' vs T G' H' hq z kp r' p=>?_⟩
  rw [List.append_nil]
  split at hq
  · rename_i ds' ef
    exact lP (fr:=true) r.np r' p ef nd hw hq fun d ρ2 v G2 H2 hq2 z2 kp2 h2=>by
      rw [if_pos rfl] at h2
      exact k d ρ2 v G2 H2 hq2 (z.trans z2) (kp.trans kp2) h2
  · exact hq.elim
end
theorem RO.grow {C:Ctx} {mu ow:List Bool} {G:Hp} {ds:List D} {vs:List V} {H:Hp} {O:Own} (n:Nat) (h:RO C mu G (ds.map some) (vs.map some) H [] O) (ho:∀ i:Nat,i < ds.length → ow[i]? = mu[i]?) :
    RO C ow G (ds.map some ++ List.replicate n none) (vs.map some ++ List.replicate n none) H [] O:=by
  have hl:ds.length = vs.length:=by simpa using h.len
  have up:∀ {α:Type} {l:List α} {i:Nat} {d : α},(l.map some ++ List.replicate n none)[i]? = some (some d) → i < l.length ∧ (l.map some)[i]? = some (some d):=fun {α l i d} e=>by
    by_cases c:i < l.length
    · rw [List.getElem?_append_left (by simpa using c)] at e; exact ⟨c,e⟩
    · rw [List.getElem?_append_right (by simpa using c)] at e
      rw [List.getElem?_replicate] at e
      split at e <;> cases e
  refine ⟨by simp [hl],h.gh,h.g0,h.gn,h.og,h.cok,h.fr,h.al,?_,?_,h.pn,h.np⟩
  · intro i v e
    have:=h.mp i v e
    rw [List.getElem?_append_left (d9 this)]; exact this
  · intro i d e
    obtain ⟨c,e1⟩:=up e
    obtain ⟨v,h1,h2⟩:=h.sl i d e1
    exact ⟨v,by rw [List.getElem?_append_left (d9 h1)]; exact h1,by rw [ho i c]; exact h2⟩
theorem RO.trim {C:Ctx} {mu ow:List Bool} {G:Hp} {ρ:DSt} {σ:St} {H:Hp} {pd:List (D × V)} {O:Own} (h:RO C ow G ρ σ H pd O) (hm:gW C mu) (ho:∀ i:Nat,i < mu.length → ow[i]? = mu[i]?) :
    RO C mu G (cQ mu.length ρ) (cQ mu.length σ) H pd O:=by
  refine ⟨by rw [dQ,dQ],h.gh,h.g0,h.gn,h.og,h.cok,h.fr,h.al,?_,?_,h.pn,h.np⟩
  · intro i v e
    exact jV (lt_of_slot' (hm i v e)) (h.mp i v e)
  · intro i d e
    obtain ⟨c,e1⟩:=kJ e
    obtain ⟨v,h1,h2⟩:=h.sl i d e1
    exact ⟨v,jV c h1,by rw [← ho i c]; exact h2⟩
where
  lt_of_slot' {l:List Bool} {i:Nat} {x:Bool} (h:l[i]? = some x):i < l.length:=(List.getElem?_eq_some_iff.mp h).1
def r_ (mu:List Bool) (q:D → DSt → Prop):EndsD:=⟨fun ρ=>q .non (mus mu ρ),fun d ρ=>q d (mus mu ρ),fun _=>False,fun _=>False⟩
theorem fnD {P:Program} {w:World} {K:PySem.W.Frag} {mg:Str → Option Value} {base:Heap} {x qual:Str} {st:Stmt} {f:Addr} {fd:FuncData} {N ps:List Str} {k:Nat} (F:Fun K x qual st f fd) (S:FnScope N ps (af st)) (M:Md) (sd:SpD)
    (hl:∀ ds q,sd ds q → ds.length = ps.length) (ho:M.ow.take ps.length = M.mu) (hml:M.mu.length = ps.length)
    (hbody:∀ (cdv:Value) (A:Around) (outer:List Env) (s:Shared) (H:Hp) (E:XK),Room k (A.deeper (envOfC qual (af st) s.heap.objs.size f cdv)) →
      ∃ m,QSs (mj CX0 P w K mg base N qual (af st) f cdv A outer s H E).nox M (aB st) m ∧ ∀ ds q,sd ds q → m (r_ M.mu q) (ds.map some ++ List.replicate (N.length - ps.length) none)) :
    FnOk P w K mg base CX0 (k + 1) f fd ps (bt M.mu M.fr sd):=by
  have hov:∀ i:Nat,i < M.mu.length → M.ow[i]? = M.mu[i]?:=fun i hi=>by rw [← ho,List.getElem?_take_of_lt (by exact uu hml hi)]
  have hlen:∀ vs H Q E,bt M.mu M.fr sd vs H Q E → vs.length = ps.length:=fun vs H Q E ⟨C,G,ds,q,_,_,⟨O,ro⟩,h1,_,_⟩=>by
    have:=ro.len; simp at this; rw [← this]; exact hl ds q h1
  refine F.ok S hlen fun cdv A outer s H vs Q E hr hsp=>?_
  obtain ⟨m,⟨t,p,ss⟩,hm⟩:=hbody cdv A outer s H E hr
  have hvl:=hlen vs H Q E hsp
  obtain ⟨C,G,ds,q,hnp,hmu,⟨O,ro⟩,hsd,hml2,kk⟩:=hsp
  refine ⟨t,p,?_⟩
  have hmo:gW C M.mu:=fun i v e=>by rw [hmu] at e; exact (nb e).1
  have r0:R C M.ow G (ds.map some ++ List.replicate (N.length - ps.length) none) (eg N vs) H []:=by
    unfold eg; rw [hvl]
    exact ⟨O,ro.grow _ fun i hi=>hov i (by exact zo180 hml hvl hml2 hi)⟩
  refine ss C G _ _ H (r_ M.mu q) _ hmo hnp r0 (hm ds q hsd) ⟨?_,fun _ _ _ _ h=>h.elim,fun _ _ _ _ h=>h.elim,?_⟩
  · intro ρ σ G' H' h z ⟨O',r'⟩
    refine kk .non (cQ M.mu.length ρ) (cQ M.mu.length σ) .non G' H' (by rw [dX]; exact h) z (dQ _ _) (R.non ⟨O',r'.trim hmo hov⟩)
  · intro d ρ σ v G' H' h z hr'
    refine kk d (cQ M.mu.length ρ) (cQ M.mu.length σ) v G' H' (by rw [dX]; exact h) z (dQ _ _) ?_
    unfold Ret at hr' ⊢
    split at hr'
    · rename_i c; rw [if_pos c]; obtain ⟨O',r'⟩:=hr'; exact ⟨O',r'.trim hmo hov⟩
    · rename_i c; rw [if_neg c]; obtain ⟨⟨O',r'⟩,p⟩:=hr'; exact ⟨⟨O',r'.trim hmo hov⟩,p⟩
theorem Seps.mk {G H:Hp} {O:Own} {i:Nat}:∀ {T:List (D × V)} {k:Nat} {π:List Nat},(∀ (j:Nat) x,T[j]? = some x → Sep G H O i x.1 ((k + j) :: π) x.2) → Seps G H O i (T.map (·.1)) k π (T.map (·.2))
  | [],_,_,_=>by simp; rw [Seps]
  | x :: T,k,π,h=>by
    simp only [List.map]; rw [Seps]
    exact ⟨x.2,_,rfl,by simpa using h 0 x rfl,Seps.mk fun j y e=>by rw [show k + 1 + j = k + (j + 1) by exact kD]; exact h (j + 1) y (by simpa using e)⟩
section
variable {C:Ctx} {ow:List Bool} {G:Hp} {ρ:DSt} {σ:St} {H:Hp} {pd T:List (D × V)} {O:Own}
theorem RO.gather (h:RO C ow G ρ σ H (T.reverse ++ pd) O) (hn:C.np ≤ pd.length):∃ O',RO C ow G ρ σ H pd O' ∧ Seps G H O' (2 * pd.length + 1) (T.map (·.1)) 0 [] (T.map (·.2)):=by
  refine ⟨lab (fun l π=>if l % 2 = 1 ∧ pd.length ≤ l / 2 then (2 * pd.length + 1,π ++ [l / 2 - pd.length]) else (l,π)) O,⟨h.len,h.gh,h.g0,h.gn,?_,h.cok,h.fr,h.al,h.mp,?_,?_,hn⟩,?_⟩
  · intro a m e
    obtain ⟨l,π,e1,rfl⟩:=iu e
    obtain ⟨q1,q2,q3⟩:=h.og a _ e1
    refine ⟨q1,q2,?_⟩
    split
    · rename_i z
      rcases q3 with q3 | ⟨_,q3⟩
      · exact .inl q3
      · rcases h.cok _ _ _ q3 with ⟨k,_,q4,_⟩ | ⟨k,q4,q5⟩
        · (first|lia|omega)
        · (first|lia|omega)
    · exact q3
  · intro j e q
    obtain ⟨u,h1,h2⟩:=h.sl j e q
    refine ⟨u,h1,?_⟩
    split at h2
    · rename_i c; rw [if_pos c]; exact h2.keep (fun _ _ z=>z) fun a τ q=>⟨by rw [bZ q,if_neg (by exact zo308)],rfl⟩
    · rename_i c; rw [if_neg c]; exact h2
  · exact bX.keep (fun _ _ z=>z) (fun a j π hj q=>⟨by rw [bZ q,if_neg (by exact zo203 hj)],rfl⟩) (eV (T:=T.reverse) h.pn)
  · refine Seps.mk fun j x e=>?_
    have:=kw h.pn e
    refine Sep.map (f:=fun π=>π ++ [0 + j]) (fun _ _ z=>z) (fun _ _=>rfl) x.1 [] x.2 (fun a τ q=>⟨?_,rfl⟩) this
    rw [bZ q,if_pos (by exact zo66)]
    rw [show (2 * (pd.length + j) + 1) / 2 - pd.length = 0 + j by exact zo29]
theorem RO.newT (h:RO C ow G ρ σ H pd O) {p:Addr} (hp:H p = none) {ds:List D} {vs:List V} (hs:Seps G H O (2 * pd.length + 1) ds 0 [] vs):R C ow (upd G p (.tup vs)) ρ σ (upd H p (.tup vs)) ((.tup ds,.ref p) :: pd) ∧ aJ G (upd G p (.tup vs)):=by
  obtain ⟨r,z⟩:=h.new hp (.tup vs)
  refine ⟨⟨O,r.len,r.gh,r.g0,r.gn,r.og,r.cok,r.fr,r.al,r.mp,r.sl,⟨?_,r.pn⟩,Nat.le_succ_of_le r.np⟩,z⟩
  rw [Sep]
  exact ⟨p,vs,rfl,aH,hs.keep z.ts fun a τ _ q=>⟨q,am (fun e=>by obtain ⟨_,⟨xs,w⟩,_⟩:=h.og a _ q; rw [e,hp] at w; cases w)⟩⟩
end
def SFm (M:Md) (t:TE) (m:ME):Prop:=∀ (C:Ctx) (G:Hp) (ρ:DSt) (σ:St) (H:Hp) (pd:List (D × V)) (q:D → DSt → Prop) (Q:VK),gW C M.mu → R C M.ow G ρ σ H pd → m ρ q →
  (∀ d ρ' v G' H',q d ρ' → aJ G G' → R C M.ow G' ρ' σ H' ((d,v) :: pd) → Q v H') → t σ H Q
structure QM (X:Cx) (M:Md) (e:Expr) (m:ME):Prop where
  ex:∃ t,PE X e t ∧ SFm M t m
def SAm (M:Md) (n:Nat) (t:TA) (m:MA):Prop:=∀ (C:Ctx) (G:Hp) (ρ:DSt) (σ:St) (H:Hp) (pd:List (D × V)) (q:List D → DSt → Prop) (Q:List V → Hp → Prop),gW C M.mu → R C M.ow G ρ σ H pd → m ρ q →
  (∀ (T:List (D × V)) ρ' G' H',q (T.map (·.1)) ρ' → aJ G G' → R C M.ow G' ρ' σ H' (T.reverse ++ pd) → T.length = n → Q (T.map (·.2)) H') → t σ H Q
structure QMs (X:Cx) (M:Md) (es:List Expr) (m:MA):Prop where
  ex:∃ t,PA X es t ∧ SAm M es.length t m
section
variable {X:Cx} {M:Md} {a b c e:Expr} {ma mb mc:ME} {pos pos':Pos} {mr:MA} {es:List Expr}
theorem QF.qm (h:QF X M.ow e ma):QM X M e ma:=by
  obtain ⟨t,p,s⟩:=h
  exact ⟨_,p,fun C G ρ σ H pd q Q hm r h k=>s C G ρ σ H pd q Q r h fun d ρ' v G' H' hq z kp r'=>k d ρ' v G' H' hq z r'⟩
theorem cb (i:Nat) {x:Str} (ho:M.ow[i]? = some true:=by decide) (hu:M.mu[i]? ≠ some true:=by decide) (hN:X.N[i]? = some x:=by rfl) (hv:Vis X.env.scope x:=by first | exact Or.inl rfl | exact Or.inr (Or.inl rfl) | exact Or.inr (Or.inr rfl)) (hd:(x == ("__debug__":Str)) = false:=by decide)
    (hcd:(x == ("__classdict__":Str)) = false:=by decide):QM X M (.Name x pos) (t5 i):=⟨_,d6 hN hv hd hcd,fun C G ρ σ H pd q Q hm r h k=>by
  unfold t5 at h
  split at h
  · rename_i d e
    obtain ⟨O,ro⟩:=r
    obtain ⟨v,h1,h2⟩:=ro.move e ho (hm.no hu)
    exact ⟨v,h1,k d _ v G H h (aJ.refl _) h2⟩
  · exact h.elim⟩
theorem cC:QMs X M [] o6:=⟨_,cO,fun C G ρ σ H pd q Q hm r h k=>k [] ρ G H h (aJ.refl _) r rfl⟩
theorem a8 (ha:QM X M e ma) (hr:QMs X M es mr) (hs:starEach (e :: es) X.env = (false,eval e X.env) :: starEach es X.env:=by rfl):QMs X M (e :: es) (fg ma mr):=by
  obtain ⟨t,p,s⟩:=ha; obtain ⟨t2,p2,s2⟩:=hr
  refine ⟨_,bK p p2 hs,fun C G ρ σ H pd q Q hm r h k=>s C G ρ σ H pd _ _ hm r h fun d ρ' v G' H' hq z r'=>?_⟩
  exact s2 C G' ρ' σ H' _ _ _ hm r' hq fun T ρ2 G2 H2 hq2 z2 r2 hn=>k ((d,v) :: T) ρ2 G2 H2 hq2 (z.trans z2) (by simpa using r2) (by simp [hn])
theorem dD {x1} (h:QMs X M es mr) (hl:es.length ≤ 1000:=by decide):QM X M (.Tuple es x1 pos) (mTup mr):=by
  obtain ⟨t,p,s⟩:=h
  refine ⟨_,rR p,fun C G ρ σ H pd q Q hm r h k=>s C G ρ σ H pd _ _ hm r h fun T ρ' G' H' hq z r' hn=>⟨dz (by simp; exact rC hl hn),fun a ha=>?_⟩⟩
  obtain ⟨O,r'⟩:=r'
  obtain ⟨O2,r2,s2⟩:=r'.gather r.np
  obtain ⟨r3,z3⟩:=r2.newT ha s2
  exact k _ ρ' _ _ _ hq (z.trans z3) r3
theorem bE (h:QM X M e ma) (hf:M.fr = true:=by rfl):QS X M (.Return (some e) pos) (mRet ma):=by
  obtain ⟨t,p,s⟩:=h
  refine ⟨_,qq p,fun C G ρ σ H n D hm hn r h k=>s C G ρ σ H [] _ _ hm r h fun d ρ' v G' H' hq z r'=>k.rt d ρ' σ v G' H' hq z (by unfold Ret; rw [if_pos hf]; exact r')⟩
theorem tI {i:Nat} {x:Str} (hN:X.N.Nodup) (hi:X.N[i]? = some x) (hx:Loc X.env.scope x) (he:QM X M e ma) (ho:M.ow[i]? = some true:=by decide) (hu:M.mu[i]? ≠ some true:=by decide) (hs:swapsWith e (some (.Name x pos')) pos.line X.env = pure false:=by rfl) (hf:X.fn x = true ∨ X.env.scope.names.lookup x = some .local:=by first | exact .inl rfl | exact .inr rfl | assumption) :
    QS X M (.Assign [.Name x pos'] e pos) (j7 i ma):=by
  obtain ⟨t,p,s⟩:=he
  refine ⟨_,mU hN hi hx p hs hf,fun C G ρ σ H n D hm hn r h k=>s C G ρ σ H [] _ _ hm r h fun d ρ' v G' H' hq z r'=>?_⟩
  obtain ⟨O,r'⟩:=r'
  exact k.nx _ _ G' H' hq z (r'.setO ho (hm.no hu) (by rw [hn]; exact Nat.zero_le _))
end
def lw (g:MG) (mt:MT) (me:ME) (ρ0:DSt) (ds:List D) (K:List D → Prop):Prop:=∃ I:Nat → List D → Prop,I 0 [] ∧
  (∀ i d es,ds[i]? = some d → I i es → g d ρ0 fun ρ2=>mt ρ2 fun b ρ3=>if b = true then me ρ3 fun x _=>I (i + 1) (es ++ [x]) else I (i + 1) es) ∧ ∀ es,I ds.length es → K es
def dg (k:Nat) (js:List Nat) (ρ:DSt):DSt:=List.replicate k none ++ js.map fun j=>(ρ[j]?).getD none
def qX (mi:MA) (g:MG) (mt:MT) (me:ME) (k:Nat) (js:List Nat):ME:=fun ρ q=>mi ρ fun ds ρ1=>ds.length ≤ 1000 ∧ lw g mt me (dg k js ρ1) ds fun es=>imms es = true ∧ q (.lst es) ρ1
def na (mi:MA) (g:MG) (mt:MT) (me:ME) (k:Nat) (js:List Nat):ME:=fun ρ q=>mi ρ fun ds ρ1=>ds.length ≤ 1000 ∧ lw g mt me (dg k js ρ1) ds fun es=>q (.lst es) ρ1
structure QIf (X:Cx) (ow:List Bool) (ifs:List Expr) (m:MT):Prop where
  ex:∃ t,PIf X ifs t ∧ STe ow t m
theorem cB {X:Cx} {ow:List Bool}:QIf X ow [] (kY true):=⟨_,s8,mE true⟩
theorem e7 {X:Cx} {ow:List Bool} {c:Expr} {mt:MT} (h:QT X ow c mt):QIf X ow [c] mt:=by obtain ⟨t,p,s⟩:=h; exact ⟨_,sS p,s⟩
section
variable {C:Ctx} {ow:List Bool} {G:Hp} {ρ:DSt} {σ:St} {H:Hp} {pd:List (D × V)} {O:Own}
theorem RO.inner (h:RO C ow G ρ σ H pd O) (own:List Str) (js:List Nat) (hj:∀ j ∈ js,ow[j]? ≠ some true) :
    RO ⟨G,H,cv (fun _=>none) O,[],0⟩ [] G (dg own.length js ρ) (bG own js σ) H [] (cv (fun _=>none) O):=by
  have no:∀ a,cv (fun _=>none) O a = none:=fun a=>by unfold cv; cases O a <;> rfl
  refine ⟨by simp [dg,bG],h.gh,fun _ _ e=>e,fun _ _ e=>.inl e,fun a l e=>?_,fun a l π e=>?_,fun _ _ e _=>e,fun _ e=>e,fun i v e=>by simp at e,?_,trivial,Nat.le_refl _⟩
  · rw [no] at e; cases e
  · exact absurd (e.symm.trans (no a)) (by simp)
  · intro i d e
    unfold dg at e
    by_cases c:i < own.length
    · rw [List.getElem?_append_left (by simpa using c),List.getElem?_replicate] at e
      split at e <;> cases e
    · rw [List.getElem?_append_right (by simpa using c),List.getElem?_map] at e
      simp only [List.length_replicate] at e
      cases z:js[i - own.length]? with
      | none=>rw [z] at e; cases e
      | some j =>
        rw [z] at e
        have e':(ρ[j]?).getD none = some d:=Option.some.inj e
        have e2 : ρ[j]? = some (some d):=by
          cases w : ρ[j]? with
          | none=>rw [w] at e'; cases e'
          | some o=>rw [w] at e'; exact congrArg some e'
        obtain ⟨v,h1,h2⟩:=h.sl j d e2
        rw [if_neg (hj j (List.mem_of_getElem? z))] at h2
        refine ⟨v,?_,by simpa using h2⟩
        unfold bG
        rw [List.getElem?_append_right (by simpa using c),List.getElem?_map]
        simp only [List.length_map]
        rw [z,show (some j).map _ = some ((σ[j]?).getD none) from rfl,h1]; rfl
end
theorem RO.back {C:Ctx} {ow:List Bool} {G G':Hp} {ρ0 ρ2:DSt} {σ0 σ2:St} {H H':Hp} {pd:List (D × V)} {O O':Own} (h0:RO C ow G ρ0 σ0 H pd O) (hn:∀ i:Nat,ow[i]? ≠ some true) (h:RO C ow G' ρ2 σ2 H' pd O') (z:aJ G G'):RO C ow G' ρ0 σ0 H' pd O' :=
  ⟨h0.len,h.gh,h.g0,h.gn,h.og,h.cok,h.fr,h.al,h0.mp,fun i d e=>by
    obtain ⟨v,h1,h2⟩:=h0.sl i d e
    rw [if_neg (hn i)] at h2
    exact ⟨v,h1,by rw [if_neg (hn i)]; exact h2.mono z⟩,h.pn,h.np⟩
theorem hU {ow:List Bool} {J:It} {g:TG} {mg:MG} {tt:TT} {mt:MT} {te:TE} {me:ME} {C:Ctx} {G:Hp} {ρ:DSt} {σ:St} {H:Hp} {pd:List (D × V)} {ds:List D} {own:List Str} {js:List Nat} {K:List D → Prop} {Z:List V → Hp → Prop}
    (r:R C ow G ρ σ H pd) (hj:∀ j ∈ js,ow[j]? ≠ some true) (jo:kb J G ds) (sg:SG ⟨[],[],false⟩ g mg) (st:STe [] tt mt) (se:SE [] te me) (hk:∀ x H k,g x (bG own js σ) H k → g x (bG own js σ) H fun σ2 H2=>kept (bG own js σ) σ2 ∧ k σ2 H2)
    (hl:ds.length ≤ 1000) (h:lw mg mt me (dg own.length js ρ) ds K)
    (k:∀ es vs G' H',K es → aJ G G' → R C ow G' ρ σ H' pd → Reps G' es vs → vs.length ≤ 1000 → Z vs H'):lz J g tt te (bG own js σ) H Z:=by
  obtain ⟨O,ro⟩:=r
  have ri:=ro.inner own js hj
  obtain ⟨I,i0,turn,fin⟩:=h
  have nt:∀ i:Nat,([]:List Bool)[i]? ≠ some true:=fun i=>by simp
  let C1:Ctx:=⟨G,H,cv (fun _=>none) O,[],0⟩
  have fnone:cv (fun _=>none) O = fun _=>none:=by funext a; unfold cv; cases O a <;> rfl
  refine ⟨fun i m acc H'=>m = ds.length - i ∧ i ≤ ds.length ∧ acc.length ≤ i ∧ ∃ G' es,aJ G G' ∧ R C1 [] G' (dg own.length js ρ) (bG own js σ) H' [] ∧ Reps G' es acc ∧ I i es,⟨_,rfl,Nat.zero_le _,Nat.le_refl _,G,[],aJ.refl _,⟨_,ri⟩,bN,i0⟩,?_⟩
  rintro i m acc H' ⟨rfl,hi,ha,G',es,z,r',pa,w⟩
  obtain ⟨sp,go⟩:=jo C1 [] G' _ _ H' [] i z r'
  by_cases hlt:i < ds.length
  · obtain ⟨g1,g2⟩:=go ds[i] (List.getElem?_eq_getElem hlt)
    refine .inr ⟨g1,bY (by exact zo87 hl ha hlt),fun acc' H2=>acc'.length ≤ i + 1 ∧ ∃ G2 es2,aJ G G2 ∧ R C1 [] G2 (dg own.length js ρ) (bG own js σ) H2 [] ∧ Reps G2 es2 acc' ∧ I (i + 1) es2,fun acc' H2 h=>⟨ds.length - (i + 1),by exact zo20 hlt,rfl,hlt,h.1,h.2⟩,fun x H1 hy=>hk _ _ _ ?_⟩
    obtain ⟨G1,z1,r1,p1⟩:=g2 x H1 hy
    refine sg C1 G1 _ _ H1 [] ds[i] x _ _ (fun i v e=>by simp [C1] at e) r1 p1 (turn i ds[i] es (List.getElem?_eq_getElem hlt) w) fun ρ2 σ2 h2 r2=>?_
    refine st C1 G1 ρ2 σ2 H1 [] _ _ r2 h2 fun b ρ3 G3 H3 h3 z3 kp3 r3=>?_
    have bk:∀ {G4:Hp} {ρ4:DSt} {H4:Hp},aJ G3 G4 → R C1 [] G4 ρ4 σ2 H4 [] → R C1 [] G4 (dg own.length js ρ) (bG own js σ) H4 []:=fun z4 ⟨O4,r4⟩=>by
      obtain ⟨O1,r1'⟩:=r1
      exact ⟨_,r1'.back nt r4 (z3.trans z4)⟩
    cases b with
    | true =>
      rw [if_pos rfl] at h3 ⊢
      refine se C1 G3 ρ3 σ2 H3 [] _ _ r3 h3 fun d ρ4 v G4 H4 h4 z4 kp4 r4 p4=>?_
      exact ⟨by simp; exact vd ha,G4,es ++ [d],z.trans (z1.trans (z3.trans z4)),bk z4 r4,fw (Reps.mono (z1.trans (z3.trans z4)) _ _ pa) (bA p4 bN),h4⟩
    | false =>
      rw [if_neg (by decide)] at h3 ⊢
      exact ⟨by exact zo89 ha,G3,es,z.trans (z1.trans z3),bk (aJ.refl _) r3,Reps.mono (z1.trans z3) _ _ pa,h3⟩
  · have e:i = ds.length:=by exact zo64 hi hlt
    subst e
    refine .inl ⟨sp (Nat.le_refl _),dz (by exact zo54 hl ha),?_⟩
    obtain ⟨O2,r2⟩:=r'
    refine k es acc G' H' (fin es w) z ⟨mL (fun _=>none) (fun _=>none) O O2,?_⟩ pa (by exact zo54 hl ha)
    refine ro.out (vs:=[]) r2 (fun _ _ _ e=>by cases e) ro.len ro.np (fun i d _ e=>e) (fun i d _ e=>.inl ⟨rfl,e⟩) fun O3 h1 h2 ts=>?_
    exact bX.keep ts (fun a j π hj e=>h1 a _ _ e rfl) ro.pn
section
variable {X:Cx} {ow:List Bool} {elt tg iter:Expr} {ifs:List Expr} {pos:Pos} {mi:MA} {mg:MG} {mt:MT} {me:ME} {scope:Scope} {cl:List (Str × Addr)}
def ve (n:Nat) (g:TG):Prop:=∀ (σ0:St),(∀ i,i < n → σ0[i]? = some none) → ∀ σ x H k,kept σ0 σ → g x σ H k → g x σ H fun σ2 H2=>kept σ0 σ2 ∧ k σ2 H2
def wr (n:Nat) (g:TGs):Prop:=∀ (σ0:St),(∀ i,i < n → σ0[i]? = some none) → ∀ σ x H k,kept σ0 σ → g x σ H k → g x σ H fun σ2 H2=>kept σ0 σ2 ∧ k σ2 H2
theorem fQ:∀ {a b:St} {i:Nat} {v:V},kept a b → a[i]? = some none → kept a (b.set i (some v))
  | [],[],i,v,h,e=>by simp at e
  | none :: r,y :: r',0,v,h,e=>h
  | none :: r,y :: r',i + 1,v,h,e=>by simp only [List.set_cons_succ]; exact fQ (a:=r) (b:=r') h (by simpa using e)
  | some w :: r,y :: r',0,v,h,e=>by simp at e
  | some w :: r,y :: r',i + 1,v,h,e=>by simp only [List.set_cons_succ]; exact ⟨h.1,fQ (a:=r) (b:=r') h.2 (by simpa using e)⟩
  | [],_ :: _,_,_,h,_=>h.elim
  | none :: _,[],_,_,h,_=>h.elim
  | some _ :: _,[],_,_,h,_=>h.elim
theorem c_:∀ (a:St),kept a a
  | []=>trivial
  | none :: r=>c_ r
  | some v :: r=>⟨rfl,c_ r⟩
def MonG (g:TG):Prop:=∀ x σ H (k k':St → Hp → Prop),(∀ σ2 H2,k σ2 H2 → k' σ2 H2) → g x σ H k → g x σ H k'
def MonGs (g:TGs):Prop:=∀ x σ H (k k':St → Hp → Prop),(∀ σ2 H2,k σ2 H2 → k' σ2 H2) → g x σ H k → g x σ H k'
structure CG (n:Nat) (g:TG) (m:MG):Prop where
  sg:SG ⟨[],[],false⟩ g m
  kp:ve n g
  mn:MonG g
structure CGs (n:Nat) (g:TGs) (m:MGs):Prop where
  sg:SGs ⟨[],[],false⟩ g m
  kp:wr n g
  mn:MonGs g
theorem bD {n:Nat} (i:Nat) (h:i < n:=by decide):CG n (hV i) (gj i) :=
  ⟨fun C G ρ σ H pd d v k K hm r p h kk=>by obtain ⟨O,r⟩:=r; exact kk _ _ h ⟨O,r.setS (by simp) (fun v e=>by have:=hm i v e; simp at this) p⟩,
   fun σ0 h0 σ x H k hk hg=>⟨fQ hk (h0 i h),hg⟩,fun x σ H k k' hk h=>hk _ _ h⟩
theorem jS {n:Nat}:CGs n gNil ni :=
  ⟨fun C G ρ σ H pd d v k K hm r p h kk=>by
    cases d with
    | nil=>rw [Reps] at p; exact ⟨p,kk _ _ h r⟩
    | cons _ _=>exact h.elim,fun σ0 h0 σ x H k hk hg=>⟨hg.1,hk,hg.2⟩,fun x σ H k k' hk h=>⟨h.1,hk _ _ h.2⟩⟩
theorem dR {n:Nat} {g:TG} {gs:TGs} {mg:MG} {mgs:MGs} (h1:CG n g mg) (h2:CGs n gs mgs):CGs n (uL g gs) (ia mg mgs) :=
  ⟨fun C G ρ σ H pd d v k K hm r p h kk=>by
    cases d with
    | nil=>exact h.elim
    | cons d ds =>
      rw [Reps] at p
      obtain ⟨v,vs,rfl,p1,p3⟩:=p
      exact ⟨v,vs,rfl,h1.sg C G ρ σ H pd d v _ _ hm r p1 h fun ρ' σ' h' r'=>h2.sg C G ρ' σ' H pd ds vs k K hm r' p3 h' kk⟩,
   fun σ0 h0 σ x H k hk hg=>by
    obtain ⟨v,r,e,q⟩:=hg
    exact ⟨v,r,e,h1.mn _ _ _ _ _ (fun σ2 H2 z=>h2.kp σ0 h0 σ2 r H2 k z.1 z.2) (h1.kp σ0 h0 σ v H _ hk q)⟩,
   fun x σ H k k' hk h=>by
    obtain ⟨v,r,e,q⟩:=h
    exact ⟨v,r,e,h1.mn _ _ _ _ _ (fun σ2 H2 z=>h2.mn _ _ _ _ _ hk z) q⟩⟩
theorem mT {n j:Nat} {K:PySem.W.Frag} {gs:TGs} {mgs:MGs} (h:CGs n gs mgs) (ht:iU j mgs):CG n (gTup K j gs) (qw mgs) :=
  ⟨fun C G ρ σ H pd d v k K hm r p h' kk=>by
    cases d with
    | tup ds =>
      obtain ⟨a,xs,rfl,h1,h2⟩:=dZ p
      exact ⟨a,xs,rfl,SqT.of (r.gh _ _ h1),by rw [h2.length]; exact ht _ _ _ h',h.sg C G ρ σ H pd ds xs k K hm r h2 h' kk⟩
    | _=>exact h'.elim,
   fun σ0 h0 σ x H k hk hg=>by obtain ⟨a,xs,e,e1,e2,q⟩:=hg; exact ⟨a,xs,e,e1,e2,h.kp σ0 h0 σ xs H k hk q⟩,
   fun x σ H k k' hk hg=>by obtain ⟨a,xs,e,e1,e2,q⟩:=hg; exact ⟨a,xs,e,e1,e2,h.mn _ _ _ _ _ hk q⟩⟩
def pN (ow:List Bool) (m:ME):TE:=fun σ H Q=>∃ (C:Ctx) (G:Hp) (ρ:DSt) (pd:List (D × V)) (q:D → DSt → Prop),R C ow G ρ σ H pd ∧ m ρ q ∧ ∀ d ρ' v G' H',q d ρ' → aJ G G' → Kp ow ρ ρ' → R C ow G' ρ' σ H' pd → Rep G' d v → Q v H'
def pw (ow:List Bool) (m:MT):TT:=fun σ H Q=>∃ (C:Ctx) (G:Hp) (ρ:DSt) (pd:List (D × V)) (q:Bool → DSt → Prop),R C ow G ρ σ H pd ∧ m ρ q ∧ ∀ d ρ' G' H',q d ρ' → aJ G G' → Kp ow ρ ρ' → R C ow G' ρ' σ H' pd → Q d H'
theorem mF {ow:List Bool} {m:ME}:SE ow (pN ow m) m:=fun C G ρ σ H pd q Q r h k=>⟨C,G,ρ,pd,q,r,h,k⟩
theorem kx {ow:List Bool} {m:MT}:STe ow (pw ow m) m:=fun C G ρ σ H pd q Q r h k=>⟨C,G,ρ,pd,q,r,h,k⟩
theorem QE.can {X:Cx} {ow:List Bool} {e:Expr} {m:ME} (h:QE X ow e m):PE X e (pN ow m):=by
  obtain ⟨t,p,s⟩:=h
  exact ⟨fun pins s' σ H Q I ⟨C,G,ρ,pd,q,r,h,k⟩=>p.go pins s' σ H Q I (s C G ρ σ H pd q Q r h k)⟩
theorem QIf.can {X:Cx} {ow:List Bool} {e:List Expr} {m:MT} (h:QIf X ow e m):PIf X e (pw ow m):=by
  obtain ⟨t,p,s⟩:=h
  exact ⟨fun pins s' σ H Q I ⟨C,G,ρ,pd,q,r,h,k⟩=>p.go pins s' σ H Q I (s C G ρ σ H pd q Q r h k)⟩
theorem e_ {own:List Str} {js:List Nat} {σ:St}:∀ i,i < own.length → (bG own js σ)[i]? = some none:=fun i h=>by
  unfold bG
  rw [List.getElem?_append_left (by simpa using h),List.getElem?_map,List.getElem?_eq_getElem h]; rfl
theorem nC {ow:List Bool} {wi:TI} {g:TG} {own:List Str} {js:List Nat} (si:SI ow wi mi) (cg:CG own.length g mg) (hj:∀ j ∈ js,ow[j]? ≠ some true):SF ow (jp wi g (pw [] mt) (pN [] me) own js) (qX mi mg mt me own.length js):=fun C G ρ σ H pd q Q r h k =>
  si C G ρ σ H pd _ _ r h fun ds ρ' G' H' J hq z kp r' jo=>by
    refine hU r' hj jo cg.sg kx mF (fun x H k hg=>cg.kp _ e_ _ x H k (c_ _) hg) hq.1 hq.2 fun es vs G2 H2 hK z2 r2 p2 hl p hp=>?_
    obtain ⟨O2,r2⟩:=r2
    exact k _ ρ' _ _ _ hK.2 (z.trans z2) kp (r2.newL hp hK.1 p2)
theorem nI {ow:List Bool} {wi:TI} {g:TG} {own:List Str} {js:List Nat} (si:SI ow wi mi) (cg:CG own.length g mg) (hj:∀ j ∈ js,ow[j]? ≠ some true):SE ow (jp wi g (pw [] mt) (pN [] me) own js) (na mi mg mt me own.length js):=fun C G ρ σ H pd q Q r h k =>
  si C G ρ σ H pd _ _ r h fun ds ρ' G' H' J hq z kp r' jo=>by
    refine hU r' hj jo cg.sg kx mF (fun x H k hg=>cg.kp _ e_ _ x H k (c_ _) hg) hq.1 hq.2 fun es vs G2 H2 hK z2 r2 p2 hl p hp=>?_
    obtain ⟨O2,r2⟩:=r2
    obtain ⟨r3,z3⟩:=r2.new hp (.lst vs)
    exact k _ ρ' _ _ _ hK (z.trans (z2.trans z3)) kp ⟨O2,r3⟩ (gH aH (Reps.mono z3 _ _ p2))
structure CInn (X:Cx) (tg:Expr) (ifs:List Expr) (elt:Expr) (g:TG) (mt:MT) (me:ME):Prop where
  pg:PG X tg g
  qi:QIf X [] ifs mt
  qe:QE X [] elt me
theorem nE {g:TG} (own:List Str) (js:List Nat) (c:CompOk X scope cl own js) (hc:X.calm = true) (hi:QI X ow tg iter mi) (cg:CG own.length g mg)
    (inner:∀ (C:Addr) (s₀:Shared) (H₀:Hp) (ex:List Addr),CInn (bz X scope cl (cF X own js) C s₀ H₀ ex) tg ifs elt g mt me) (hj:∀ j ∈ js,ow[j]? ≠ some true:=by decide)
    (hs:∀ x,foldedSetIterable iter X.env x = pure x:=by intro _; rfl):QF X ow (.ListComp elt [⟨tg,iter,ifs,0⟩] scope pos) (qX mi mg mt me own.length js):=by
  obtain ⟨wi,pi,si⟩:=hi
  exact ⟨_,ko own js c hc pi (fun C s₀ H₀ ex=>⟨(inner C s₀ H₀ ex).pg,(inner C s₀ H₀ ex).qi.can,(inner C s₀ H₀ ex).qe.can⟩) hs,nC si cg hj⟩
theorem d8 {g:TG} (own:List Str) (js:List Nat) (c:CompOk X scope cl own js) (hc:X.calm = true) (hi:QI X ow tg iter mi) (cg:CG own.length g mg)
    (inner:∀ (C:Addr) (s₀:Shared) (H₀:Hp) (ex:List Addr),CInn (bz X scope cl (cF X own js) C s₀ H₀ ex) tg ifs elt g mt me) (hj:∀ j ∈ js,ow[j]? ≠ some true:=by decide)
    (hs:∀ x,foldedSetIterable iter X.env x = pure x:=by intro _; rfl):QE X ow (.ListComp elt [⟨tg,iter,ifs,0⟩] scope pos) (na mi mg mt me own.length js):=by
  obtain ⟨wi,pi,si⟩:=hi
  exact ⟨_,ko own js c hc pi (fun C s₀ H₀ ex=>⟨(inner C s₀ H₀ ex).pg,(inner C s₀ H₀ ex).qi.can,(inner C s₀ H₀ ex).qe.can⟩) hs,nI si cg hj⟩
theorem fi {M:Md} {g:TG} {i:Nat} {y:Str} {spos py:Pos} (own:List Str) (js:List Nat) (c:CompOk X scope cl own js) (hc:X.calm = true) (hN:X.N.Nodup) (hy:X.N[i]? = some y) (hx:Loc X.env.scope y) (hi:QI X M.ow tg iter mi) (cg:CG own.length g mg)
    (inner:∀ (C:Addr) (s₀:Shared) (H₀:Hp) (ex:List Addr),CInn (bz X scope cl (cF X own js) C s₀ H₀ ex) tg ifs elt g mt me) (hj:∀ j ∈ js,M.ow[j]? ≠ some true:=by decide) (ho:M.ow[i]? ≠ some true:=by decide) (hu:M.mu[i]? ≠ some true:=by decide)
    (hsw:swapsWith (.ListComp elt [⟨tg,iter,ifs,0⟩] scope pos) (some (.Name y py)) spos.line X.env = pure true:=by rfl)
    (hs:∀ x,foldedSetIterable iter X.env x = pure x:=by intro _; rfl) (hf:X.fn y = true ∨ X.env.scope.names.lookup y = some .local:=by first | exact .inl rfl | exact .inr rfl | assumption) :
    QS X M (.Assign [.Name y py] (.ListComp elt [⟨tg,iter,ifs,0⟩] scope pos) spos) (j7 i (na mi mg mt me own.length js)):=by
  obtain ⟨wi,pi,si⟩:=hi
  exact ⟨_,d4 own js c hc hN hy hx pi (fun C s₀ H₀ ex=>⟨(inner C s₀ H₀ ex).pg,(inner C s₀ H₀ ex).qi.can,(inner C s₀ H₀ ex).qe.can⟩) hsw hs hf,l7 (nI si cg hj) ho hu⟩
end
theorem dU {g:MG} {mt:MT} {me:ME} {ρ0:DSt} {ds:List D} {K:List D → Prop} (f:D → Option D)
    (step:∀ (d:D),d ∈ ds → ∀ k:Option D → Prop,k (f d) → g d ρ0 fun ρ2=>mt ρ2 fun b ρ3=>if b = true then me ρ3 fun x _=>k (some x) else k none) (h:K (ds.filterMap f)):lw g mt me ρ0 ds K:=by
  refine ⟨fun i es=>es = (ds.take i).filterMap f,rfl,?_,fun es e=>by rw [e,List.take_length]; exact h⟩
  rintro i d es hd rfl
  have:=step d (List.mem_of_getElem? hd) (fun o=>match o with | some x=>(ds.take i).filterMap f ++ [x] = (ds.take (i + 1)).filterMap f | none=>(ds.take i).filterMap f = (ds.take (i + 1)).filterMap f) (by
    rw [List.take_add_one,hd]
    simp only [Option.toList,List.filterMap_append]
    cases e:f d with
    | none=>simp [e]
    | some x=>simp [e])
  exact this
theorem cA {g:MG} {me:ME} {ρ0:DSt} {ds:List D} {K:List D → Prop} (f:D → D)
    (step:∀ (d:D),d ∈ ds → ∀ k:D → Prop,k (f d) → g d ρ0 fun ρ2=>me ρ2 fun x _=>k x) (h:K (ds.map f)):lw g (kY true) me ρ0 ds K:=by
  refine ⟨fun i es=>es = (ds.take i).map f,rfl,?_,fun es e=>by rw [e,List.take_length]; exact h⟩
  rintro i d es hd rfl
  have:=step d (List.mem_of_getElem? hd) (fun x=>(ds.take i).map f ++ [x] = (ds.take (i + 1)).map f) (by
    rw [List.take_add_one,hd]; simp)
  exact this
def md (x:Int):List Int → List Int
  | []=>[x]
  | y :: r=>if x ≤ y then x :: y :: r else y :: md x r
def cw:List Int → List Int
  | []=>[]
  | x :: r=>md x (cw r)
theorem ga (x:Int):∀ l:List Int,(md x l).Perm (x :: l)
  | []=>List.Perm.refl _
  | y :: r=>by
    unfold md
    split
    · exact List.Perm.refl _
    · exact ((ga x r).cons y).trans (List.Perm.swap x y r)
theorem bJ:∀ l:List Int,(cw l).Perm l
  | []=>List.Perm.refl _
  | x :: r=>(ga x (cw r)).trans ((bJ r).cons x)
theorem gy (x:Int):∀ {l:List Int},l.Pairwise (· ≤ ·) → (md x l).Pairwise (· ≤ ·)
  | [],_=>by simp [md]
  | y :: r,h=>by
    unfold md
    rw [List.pairwise_cons] at h
    split
    · rename_i c
      refine List.pairwise_cons.mpr ⟨fun z hz=>?_,List.pairwise_cons.mpr h⟩
      rcases List.mem_cons.mp hz with rfl | hz
      · exact c
      · exact Int.le_trans c (h.1 z hz)
    · rename_i c
      refine List.pairwise_cons.mpr ⟨fun z hz=>?_,gy x h.2⟩
      rcases List.mem_cons.mp ((ga x r).mem_iff.mp hz) with rfl | hz
      · exact zo360 c
      · exact h.1 z hz
theorem fv:∀ l:List Int,(cw l).Pairwise (· ≤ ·)
  | []=>List.Pairwise.nil
  | x :: r=>gy x (fv r)
theorem gT:∀ {a b:List Int},a.Perm b → a.Pairwise (· ≤ ·) → b.Pairwise (· ≤ ·) → a = b
  | [],b,p,_,_=>(List.Perm.nil_eq p)
  | x :: a,[],p,_,_=>by have:=p.length_eq; simp at this
  | x :: a,y :: b,p,ha,hb=>by
    have hx:x = y:=by
      rw [List.pairwise_cons] at ha hb
      have h1:x ∈ y :: b:=p.mem_iff.mp (.head _)
      have h2:y ∈ x :: a:=p.mem_iff.mpr (.head _)
      rcases List.mem_cons.mp h1 with rfl | h1
      · rfl
      rcases List.mem_cons.mp h2 with h2 | h2
      · exact h2.symm
      have:=ha.1 y h2
      have:=hb.1 x h1
      (first|lia|omega)
    subst hx
    rw [gT ((List.perm_cons x).mp p) (List.pairwise_cons.mp ha).2 (List.pairwise_cons.mp hb).2]
theorem rf {a b:List Int} (p:a.Perm b) (h:a.Pairwise (· ≤ ·)):a = cw b:=gT (p.trans (bJ b).symm) h (fv b)
theorem oS (l:List Int):(cw l).length = l.length:=(bJ l).length_eq
section
variable {X:Cx}
def qE (K:PySem.W.Frag):List V → Hp → VK → Prop:=fun xs H Q=>∃ (p:Addr) (ns:List Int),xs = [.ref p] ∧ SqL K H p (ns.map V.int) ∧ ns.length < 64 ∧ ∀ l,H l = none → Q (.ref l) (upd H l (.lst ((cw ns).map V.int)))
theorem fq:cq X (.builtin "sorted") (qE X.K):=by
  intro pins s σ H xs us Q I r h
  obtain ⟨p,ns,rfl,hS,h64,q⟩:=h
  obtain ⟨u,rfl,ru⟩:=eB r
  cases ru
  obtain ⟨its,rv,pl,_⟩:=I.list hS
  have hI:IntsAre its ns:=ie rv
  have hlen:its.length = ns.length:=by have:=rv.length; simp at this; exact this.symm
  refine sorted_ints (l:=p) (vs:=its) (ns:=ns) (isList_of pl) hI (by exact zo313 h64 hlen) fun out ns' a1 a2 a3=>?_
  obtain ⟨e,he⟩:=sortedAll_at s.heap its out
  have hl:ns' = cw ns:=rf a2 a3
  subst hl
  refine ⟨.ref (s.heap.objs.size + 1),_,I.laid (a:=s.heap.objs.size + 1) (o:=.lst ((cw ns).map V.int)) (t':=s.toks) (fun _ _ q=>sortedAll_old q) (Nat.le_succ _) ?_,rfl,q _ (I.hok.fresh (Nat.le_succ _))⟩
  refine ⟨Nat.le_of_lt (bY (by rw [List.length_map,oS]; exact zo300 h64 hlen)),out.toList,e,f_ a1,?_⟩
  simpa [seqObj] using he
where
  isList_of {h:Heap} {a:Addr} {its:List Value} (pl:PlainL h a its.toArray):h.IsList a its.toArray:=by
    first | exact pl.isList | exact pl.1 | exact pl
end
theorem d7 {G:Hp}:∀ {ns:List Int} {xs:List V},Reps G (ns.map D.int) xs → xs = ns.map V.int
  | [],xs,h=>by rw [List.map_nil,Reps] at h; subst h; rfl
  | n :: r,xs,h=>by rw [List.map_cons,Reps] at h; obtain ⟨v,vs,rfl,h1,h2⟩:=h; rw [aG h1,d7 h2]; rfl
def pQ:List D → (List D → Prop) → Prop:=fun ds q=>match ds with
  | [.lst xs]=>∃ ns:List Int,xs = ns.map D.int ∧ ns.length < 64 ∧ q ((cw ns).map D.int)
  | _=>False
theorem qO {K:PySem.W.Frag}:ge (qE K) pQ:=fun G H xs ds q Q s p hf k=>by
  unfold pQ at hf
  split at hf
  · obtain ⟨v,rfl,p1⟩:=bI p
    obtain ⟨a,xs,rfl,h1,h2⟩:=a6 p1
    obtain ⟨ns,rfl,hl,hq⟩:=hf
    rw [d7 h2] at h1
    exact ⟨a,ns,rfl,SqL.of (s _ _ h1),hl,fun l hl=>k _ _ l hq (gq _) hl⟩
  · exact hf.elim
section
variable {C:Ctx} {ow:List Bool} {G:Hp} {ρ:DSt} {σ:St} {H:Hp} {pd:List (D × V)} {O:Own}
end
section
variable {ow:List Bool} {t:TE} {m:ME}
theorem SF.bor (js:List Nat) (s:SF (L2.bor js ow) t m):SF ow t m:=fun C G ρ σ H pd q Q r hm k=>by
  obtain ⟨O,r⟩:=r
  refine s _ _ ρ σ H pd _ _ ⟨_,r.enter js⟩ hm fun d ρ' v G' H' hq s kp r'=>?_
  obtain ⟨O',r'⟩:=r'
  obtain ⟨r2,s2,ts⟩:=r.leave r' kp
  exact k d ρ' v _ H' hq s2 (ke kp) ⟨_,r2⟩
theorem SF.se (s:SF ow t m):SE ow t m:=fun C G ρ σ H pd q Q r hm k=>s C G ρ σ H pd _ _ r hm fun d ρ' v G' H' hq s kp r'=>by
  obtain ⟨O,r'⟩:=r'
  obtain ⟨G2,s2,r2,p2⟩:=r'.share r.np
  exact k d ρ' v G2 H' hq (s.trans s2) kp r2 p2
end
section
variable {X:Cx} {M:Md} {a b c e:Expr} {ma mb mc:ME} {pos pos':Pos} {mr:MA} {es:List Expr}
theorem kc {g:TG} {mg:MG} {mt:MT} {me:ME} {mi:MA} {tg iter elt:Expr} {ifs:List Expr} {scope:Scope} {cl:List (Str × Addr)} {i:Nat} {y:Str} {spos py:Pos} (bs:List Nat) (own:List Str) (js:List Nat) (c:CompOk X scope cl own js) (hc:X.calm = true) (hN:X.N.Nodup) (hy:X.N[i]? = some y) (hx:Loc X.env.scope y) (hi:QI X (bor bs M.ow) tg iter mi) (cg:CG own.length g mg)
    (inner:∀ (C:Addr) (s₀:Shared) (H₀:Hp) (ex:List Addr),CInn (bz X scope cl (cF X own js) C s₀ H₀ ex) tg ifs elt g mt me) (hj:∀ j ∈ js,(bor bs M.ow)[j]? ≠ some true:=by decide) (ho:M.ow[i]? = some true:=by decide) (hu:M.mu[i]? ≠ some true:=by decide)
    (hsw:swapsWith (.ListComp elt [⟨tg,iter,ifs,0⟩] scope pos) (some (.Name y py)) spos.line X.env = pure true:=by rfl)
    (hs:∀ x,foldedSetIterable iter X.env x = pure x:=by intro _; rfl) (hf:X.fn y = true ∨ X.env.scope.names.lookup y = some .local:=by first | exact .inl rfl | exact .inr rfl | assumption) :
    QS X M (.Assign [.Name y py] (.ListComp elt [⟨tg,iter,ifs,0⟩] scope pos) spos) (j7 i (qX mi mg mt me own.length js)):=by
  obtain ⟨wi,pi,si⟩:=hi
  exact ⟨_,d4 own js c hc hN hy hx pi (fun C s₀ H₀ ex=>⟨(inner C s₀ H₀ ex).pg,(inner C s₀ H₀ ex).qi.can,(inner C s₀ H₀ ex).qe.can⟩) hsw hs hf,j6 (SF.bor bs (nC si cg hj)) ho hu⟩
def mSetN (i c:Nat) (mk m:ME):MS:=fun n ρ=>m ρ fun d ρ1=>imm d = true ∧ match ρ1[i]? with
  | some (some (.tup es))=>match es[c]? with
    | some (.lst _)=>mk ρ1 fun k ρ2=>match ρ2[i]? with
      | some (some (.tup es))=>match es[c]? with
        | some (.lst ds)=>match k with
          | .int j=>match ixN ds.length j with
            | some p=>n.nx (ρ2.set i (some (.tup (es.set c (.lst (ds.set p d))))))
            | none=>False
          | _=>False
        | _=>False
      | _=>False
    | _=>False
  | _=>False
def mPop (i:Nat):ME:=fun ρ q=>match ρ[i]? with
  | some (some (.lst ds))=>match ds[ds.length - 1]? with
    | some d=>imm d = true ∧ q d (ρ.set i (some (.lst ds.dropLast)))
    | none=>False
  | _=>False
theorem bV (ns:List Int):imms (ns.map D.int) = true:=by
  induction ns with
  | nil=>rfl
  | cons n r ih=>simp only [List.map,imms,imm,ih]; rfl
end
def mCut (m:MS):MS:=fun n ρ=>∃ I:DSt → Prop,m { n with nx:=I } ρ ∧ ∀ ρ',I ρ' → n.nx ρ'
theorem cc {X:Cx} {M:Md} {st:Stmt} {m:MS} (h:QS X M st m):QS X M st (mCut m):=by
  obtain ⟨t,p,s⟩:=h
  refine ⟨_,p,fun C G ρ σ H n D hm hn r h k=>?_⟩
  obtain ⟨I,h1,h2⟩:=h
  exact s C G ρ σ H _ D hm hn r h1 ⟨fun ρ' σ' G' H' hi=>k.nx ρ' σ' G' H' (h2 ρ' hi),k.bk,k.ct,k.rt⟩
mutual
theorem Sep.strip {G H:Hp} {O O':Own} {i i':Nat} {sfx:List Nat} :
    ∀ (d:D) (π:List Nat) (v:V),(∀ a τ,O a = some (i,(τ ++ π) ++ sfx) → O' a = some (i',τ ++ π)) → Sep G H O i d (π ++ sfx) v → Sep G H O' i' d π v
  | .non,_,_,_,h=>by rw [Sep] at *; exact h
  | .bl b,_,_,_,h=>by rw [Sep] at *; exact h
  | .int n,_,_,_,h=>by rw [Sep] at *; exact h
  | .str x,_,_,_,h=>by rw [Sep] at *; exact h
  | .tup ds,π,v,hO,h=>by
    rw [Sep] at *
    obtain ⟨a,xs,h1,h2,h3⟩:=h
    exact ⟨a,xs,h1,h2,Seps.strip ds 0 π xs (fun a τ=>hO a τ) h3⟩
  | .lst ds,π,v,hO,h=>by
    rw [Sep] at *
    obtain ⟨a,xs,h1,h2,h3,h4⟩:=h
    exact ⟨a,xs,h1,hO a [] h2,h3,Seps.strip ds 0 π xs (fun a τ=>hO a τ) h4⟩
  | .dic ks ds,π,v,hO,h=>by
    rw [Sep] at *
    obtain ⟨a,xs,h1,h2,h3,h5,h4⟩:=h
    exact ⟨a,xs,h1,hO a [] h2,h3,h5,Seps.strip ds 0 π xs (fun a τ=>hO a τ) h4⟩
  | .dct,_,_,_,h=>by rw [Sep] at h; exact h.elim
  | .scr _ _,_,_,_,h=>by rw [Sep] at h; exact h.elim
  | .ext _,_,_,_,h=>by rw [Sep] at h; exact h.elim
theorem Seps.strip {G H:Hp} {O O':Own} {i i':Nat} {sfx:List Nat} :
    ∀ (ds:List D) (k:Nat) (π:List Nat) (xs:List V),(∀ a τ,O a = some (i,(τ ++ π) ++ sfx) → O' a = some (i',τ ++ π)) → Seps G H O i ds k (π ++ sfx) xs → Seps G H O' i' ds k π xs
  | [],_,_,_,_,h=>by rw [Seps] at *; exact h
  | d :: ds,k,π,xs,hO,h=>by
    rw [Seps] at *
    obtain ⟨v,vs,h1,h2,h3⟩:=h
    refine ⟨v,vs,h1,Sep.strip d (k :: π) v (fun a τ e=>?_) h2,Seps.strip ds (k + 1) π vs hO h3⟩
    have e' : τ ++ k :: π = (τ ++ [k]) ++ π:=by simp
    rw [e'] at e ⊢
    exact hO a (τ ++ [k]) e
end
section
variable {C:Ctx} {ow:List Bool} {G:Hp} {ρ:DSt} {σ:St} {H:Hp} {pd:List (D × V)} {O:Own}
theorem RO.split {ds:List D} {v:V} (h:RO C ow G ρ σ H ((.tup ds,v) :: pd) O) (hn:C.np ≤ pd.length):∃ a xs,v = .ref a ∧ G a = some (.tup xs) ∧ xs.length = ds.length ∧ R C ow G ρ σ H (ds.zip xs ++ pd):=by
  obtain ⟨s,pn⟩:=h.pn
  rw [Sep] at s
  obtain ⟨a,xs,rfl,hG,hs⟩:=s
  have hl:=hs.length
  refine ⟨a,xs,rfl,hG,hl,lab (fun l π=>if l = 2 * pd.length + 1 then (2 * (pd.length + (ds.length - 1 - π.getLastD 0)) + 1,π.dropLast) else (l,π)) O,h.len,h.gh,h.g0,h.gn,?_,h.cok,h.fr,h.al,h.mp,?_,?_,by simp; exact zo139 hn hl⟩
  · intro b m e
    obtain ⟨l,π,e1,rfl⟩:=iu e
    obtain ⟨q1,q2,q3⟩:=h.og b _ e1
    refine ⟨q1,q2,?_⟩
    split
    · rename_i z
      rcases q3 with q3 | ⟨_,q3⟩
      · exact .inl q3
      · rcases h.cok _ _ _ q3 with ⟨k,_,q4,_⟩ | ⟨k,q4,q5⟩
        · exact absurd (q4.symm.trans z) cj
        · (first|lia|omega)
    · exact q3
  · intro j e q
    obtain ⟨u,h1,h2⟩:=h.sl j e q
    refine ⟨u,h1,?_⟩
    split at h2
    · rename_i c; rw [if_pos c]; exact h2.keep (fun _ _ z=>z) fun a τ q=>⟨by rw [bZ q,if_neg cj],rfl⟩
    · rename_i c; rw [if_neg c]; exact h2
  · have old:∀ (O':Own),(∀ b j π,j < pd.length → O b = some (2 * j + 1,π) → O' b = some (2 * j + 1,π)) → bX G H O' pd:=fun O' hO=>bX.keep (fun _ _ z=>z) (fun b j π hj q=>⟨hO b j π hj q,rfl⟩) pn
    have key:∀ (ds0:List D) (k:Nat) (xs0:List V) (O':Own),k + ds0.length = ds.length → Seps G H O (2 * pd.length + 1) ds0 k [] xs0 →
        (∀ b j π,j < pd.length → O b = some (2 * j + 1,π) → O' b = some (2 * j + 1,π)) → (∀ b τ k',O b = some (2 * pd.length + 1,τ ++ [k']) → O' b = some (2 * (pd.length + (ds.length - 1 - k')) + 1,τ)) → bX G H O' (ds0.zip xs0 ++ pd):=by
      intro ds0
      induction ds0 with
      | nil=>intro k xs0 O' _ _ ho _; exact old O' ho
      | cons d0 r ih =>
        intro k xs0 O' hk hh ho hnw
        rw [Seps] at hh
        obtain ⟨w,ws,rfl,w1,w2⟩:=hh
        have hwl:=w2.length
        refine ⟨?_,ih (k + 1) ws O' (by simp at hk; exact zo174 hk) w2 ho hnw⟩
        have e:(List.zip r ws ++ pd).length = pd.length + (ds.length - 1 - k):=by simp at hk ⊢; (first|lia|omega)
        show Sep G H O' (2 * (List.zip r ws ++ pd).length + 1) d0 [] w
        rw [e]
        exact Sep.strip (sfx:=[k]) d0 [] w (fun b τ q=>by simpa using hnw b τ k (by simpa using q)) w1
    refine key ds 0 xs _ (by exact zo345) hs (fun b j π hj q=>by rw [bZ q,if_neg (by exact zo65 hj)]) (fun b τ k' q=>?_)
    rw [bZ q,if_pos rfl]
    simp
end
def SGF (M:Md) (g:TGs) (m:MGs):Prop:=∀ (C:Ctx) (G:Hp) (ρ:DSt) (σ:St) (H:Hp) (T pd:List (D × V)) (k:DSt → Prop) (K:St → Hp → Prop),gW C M.mu → C.np ≤ pd.length → R C M.ow G ρ σ H (T ++ pd) → m (T.map (·.1)) ρ k →
  (∀ ρ' σ' G',k ρ' → aJ G G' → R C M.ow G' ρ' σ' H pd → K σ' H) → g (T.map (·.2)) σ H K
structure QGF (X:Cx) (M:Md) (e:List Expr) (m:MGs):Prop where
  ex:∃ t,PGs X e t ∧ SGF M t m
section
variable {X:Cx} {M:Md} {a b c e:Expr} {ma mb mc:ME} {pos pos':Pos} {mr:MA} {es:List Expr} {mgs:MGs}
theorem sw:QGF X M [] ni:=⟨_,fY,fun C G ρ σ H T pd k K hm hn r h kk=>by
  cases T with
  | nil=>exact ⟨rfl,kk _ _ G h (aJ.refl _) r⟩
  | cons _ _=>exact h.elim⟩
theorem tL {i:Nat} {x:Str} (hN:X.N.Nodup) (hi:X.N[i]? = some x) (hx:Loc X.env.scope x) (h2:QGF X M es mgs) (ho:M.ow[i]? = some true:=by decide) (hu:M.mu[i]? ≠ some true:=by decide) (hf:X.fn x = true ∨ X.env.scope.names.lookup x = some .local:=by first | exact .inl rfl | exact .inr rfl | assumption)
    (hs:(assignEach (.Name x pos :: es) X.env).map (·.2) = assign (.Name x pos) X.env :: (assignEach es X.env).map (·.2):=by rfl):QGF X M (.Name x pos :: es) (ia (gj i) mgs):=by
  obtain ⟨t2,p2,s2⟩:=h2
  refine ⟨_,ck (bc hN hi hx hf) p2 hs,fun C G ρ σ H T pd k K hm hn r h kk=>?_⟩
  cases T with
  | nil=>exact h.elim
  | cons x T =>
    obtain ⟨O,r⟩:=r
    exact ⟨_,_,rfl,s2 C G _ _ H T pd k K hm hn (r.setO ho (hm.no hu) (by simp; exact uZ hn)) h kk⟩
theorem wV {i:Nat} {x:Str} (hN:X.N.Nodup) (hi:X.N[i]? = some x) (hx:Loc X.env.scope x) (h2:QGF X M es mgs) (ho:M.ow[i]? ≠ some true:=by decide) (hu:M.mu[i]? ≠ some true:=by decide) (hf:X.fn x = true ∨ X.env.scope.names.lookup x = some .local:=by first | exact .inl rfl | exact .inr rfl | assumption)
    (hs:(assignEach (.Name x pos :: es) X.env).map (·.2) = assign (.Name x pos) X.env :: (assignEach es X.env).map (·.2):=by rfl):QGF X M (.Name x pos :: es) (ia (gj i) mgs):=by
  obtain ⟨t2,p2,s2⟩:=h2
  refine ⟨_,ck (bc hN hi hx hf) p2 hs,fun C G ρ σ H T pd k K hm hn r h kk=>?_⟩
  cases T with
  | nil=>exact h.elim
  | cons x T =>
    obtain ⟨O,r⟩:=r
    obtain ⟨G2,z2,⟨O2,r2⟩,p⟩:=r.share (by simp; exact uZ hn)
    exact ⟨_,_,rfl,s2 C G2 _ _ H T pd k K hm hn ⟨O2,r2.setS ho (hm.no hu) p⟩ h fun ρ' σ' G' hk z r'=>kk ρ' σ' G' hk (z2.trans z) r'⟩
theorem s9 {kk:Nat} {n:Nat} {tpos:Pos} (hc:X.calm = true) (he:QM X M e ma) (hg:QGF X M es mgs) (ht:iU n mgs)
    (hn:(assignEach es X.env).length = n:=by rfl) (hst:(assignEach es X.env).findIdx? (·.1) = none:=by rfl)
    (hs:swapsWithSole [.Tuple es kk tpos] e pos.line X.env = pure false:=by rfl) (hw:swappedStores [.Tuple es kk tpos] e X.env = pure none:=by rfl)
    (h1:(assignEach [.Tuple es kk tpos] X.env).map (·.2) = [assign (.Tuple es kk tpos) X.env]:=by rfl):QS X M (.Assign [.Tuple es kk tpos] e pos) (mAsg ma (qw mgs)):=by
  obtain ⟨t,p,s⟩:=he; obtain ⟨t2,p2,s2⟩:=hg
  refine ⟨_,l5 p (ic hc p2 hn hst) hs hw h1,fun C G ρ σ H n D hm hn r h k=>s C G ρ σ H [] _ _ hm r h fun d ρ' v G' H' hq z r'=>?_⟩
  cases d with
  | tup ds =>
    obtain ⟨O,r'⟩:=r'
    obtain ⟨a,xs,rfl,h1,h2,r2⟩:=r'.split (by rw [hn]; exact Nat.zero_le _)
    have hl:=ht _ _ _ hq
    have e1:(ds.zip xs).map (·.1) = ds:=List.map_fst_zip (by exact zo321 h2)
    have e2:(ds.zip xs).map (·.2) = xs:=List.map_snd_zip (by exact zo322 h2)
    refine ⟨a,xs,rfl,SqT.of (r2.gh _ _ h1),by exact zo221 h2 hl,?_⟩
    have:=s2 C G' ρ' σ H' (ds.zip xs) [] n.nx D.nx hm (by rw [hn]; exact Nat.zero_le _) r2 (by rw [e1]; exact hq) fun ρ3 σ3 G3 h3 z3 r3=>k.nx ρ3 σ3 G3 H' h3 (z.trans z3) r3
    rw [e2] at this
    exact this
  | _=>exact hq.elim
theorem lT {i:Nat} {x:Str} {apos cpos npos:Pos} {ow:List Bool} (hN:X.N[i]? = some x) (ho:ow[i]? = some true:=by decide)
    (hv:Vis X.env.scope x:=by first | exact Or.inl rfl | exact Or.inr (Or.inl rfl) | exact Or.inr (Or.inr rfl)) (hd:(x == ("__debug__":Str)) = false:=by decide) (hcd:(x == ("__classdict__":Str)) = false:=by decide)
    (hbase:attributeBase (.Name x npos) "pop" X.env (eval (.Name x npos) X.env) = eval (.Name x npos) X.env:=by rfl) (hline:(apos.endLine == cpos.line) = true:=by rfl) :
    QE X ow (.Call (.Attribute (.Name x npos) "pop" apos) [] [] cpos) (mPop i):=by
  refine ⟨_,rN PySem.F.plainAttrs_list PySem.F.slot_list_pop PySem.F.type_list_pop wx (d6 hN hv hd hcd) hbase hline,fun C G ρ σ H pd q Q r h k=>?_⟩
  unfold mPop at h
  split at h
  · rename_i ds e1
    split at h
    · rename_i d e2
      obtain ⟨O,ro⟩:=r
      obtain ⟨a,xs,h1,h2,h3,h4⟩:=ro.write e1 ho
      obtain ⟨v,h5,h6⟩:=h3.at e2
      have hl:=h3.length
      refine ⟨.ref a,h1,.inl ⟨rfl,xs,SqL.of h2⟩,a,xs,v,rfl,rfl,h2,by rw [hl]; exact h5,?_⟩
      exact k d _ v G _ h.2 (aJ.refl _) (fun j hj=>List.getElem?_set_ne (fun (z:i = j)=>hj (z ▸ ho))) ⟨O,h4 _ _ h3.front⟩ (h6.imm d _ v h.1)
    · exact h.elim
  · exact h.elim
end
section
variable {X:Cx} {M:Md} {a b c e:Expr} {ma mb mc:ME} {pos pos':Pos}
def mAugI (i:Nat) (mk m:ME):MS:=fun n ρ=>match ρ[i]? with
  | some (some (.lst _))=>mk ρ fun k ρ1=>match k with
    | .int j=>match ρ1[i]? with
      | some (some (.lst ds))=>0 ≤ j ∧ match atI ds j with
        | some (.int x)=>m ρ1 fun d ρ2=>match d with
          | .int y=>match ρ2[i]? with
            | some (some (.lst ds2))=>match ixN ds2.length j with
              | some p=>n.nx (ρ2.set i (some (.lst (ds2.set p (.int (x + y))))))
              | none=>False
            | _=>False
          | _=>False
        | _=>False
      | _=>False
    | _=>False
  | _=>False
end
def ur (g:MG) (mt:MT) (me:ME) (ρ0:DSt) (k0:Nat) (ds:List D) (d0:D) (K:List D → D → Prop):Prop:=∃ I:Nat → List D → D → Prop,I 0 [] d0 ∧
  (∀ i x es d,ds[i]? = some x → I i es d → g x (ρ0.set k0 (some d)) fun ρ2=>mt ρ2 fun b ρ3=>if b = true then me ρ3 fun y ρ4=>(match ρ4[k0]? with | some (some d')=>I (i + 1) (es ++ [y]) d' | _=>False) else match ρ3[k0]? with | some (some d')=>I (i + 1) es d' | _=>False) ∧
  ∀ es d,I ds.length es d → K es d
def mR (mi:MA) (g:MG) (mt:MT) (me:ME) (k:Nat) (js:List Nat) (j0 k0:Nat):ME:=fun ρ q=>mi ρ fun ds ρ1=>ds.length ≤ 1000 ∧ match ρ1[j0]? with
  | some (some d0)=>ur g mt me (dg k js ρ1) k0 ds d0 fun es d=>imms es = true ∧ q (.lst es) (ρ1.set j0 (some d))
  | _=>False
def owM (k0:Nat):List Bool:=List.replicate k0 false ++ [true]
theorem e9 {k0 i:Nat}:(owM k0)[i]? = some true ↔ i = k0:=by
  unfold owM
  by_cases h:i < k0
  · rw [List.getElem?_append_left (by simpa using h),List.getElem?_replicate,if_pos h]
    constructor
    · intro z; cases z
    · intro z; (first|lia|omega)
  · rw [List.getElem?_append_right (by simpa using h),List.length_replicate]
    cases e:i - k0 with
    | zero=>simp; exact zo33 h e
    | succ m=>simp; exact zo243 e
def muM (k0:Nat) (v:V):List (Option V):=List.replicate k0 none ++ [some v]
theorem nX {k0 i:Nat} {v w:V} (h:(muM k0 v)[i]? = some (some w)):i = k0 ∧ w = v:=by
  unfold muM at h
  by_cases c:i < k0
  · rw [List.getElem?_append_left (by simpa using c),List.getElem?_replicate,if_pos c] at h; cases h
  · rw [List.getElem?_append_right (by simpa using c),List.length_replicate] at h
    cases e:i - k0 with
    | zero=>rw [e] at h; simp at h; exact ⟨by exact zo33 c e,h.symm⟩
    | succ m=>rw [e] at h; simp at h
theorem vt (k0:Nat) (v:V):(muM k0 v)[k0]? = some (some v):=by unfold muM; rw [List.getElem?_append_right (by simp)]; simp
theorem sT {k:Nat} {js:List Nat} {ρ:DSt} {i:Nat} {d:D} (e:(dg k js ρ)[i]? = some (some d)):k ≤ i ∧ ∃ j,js[i - k]? = some j ∧ ρ[j]? = some (some d):=by
  unfold dg at e
  by_cases c:i < k
  · rw [List.getElem?_append_left (by simpa using c),List.getElem?_replicate] at e
    split at e <;> cases e
  · rw [List.getElem?_append_right (by simpa using c),List.getElem?_map] at e
    simp only [List.length_replicate] at e
    refine ⟨by exact pH c,?_⟩
    cases z:js[i - k]? with
    | none=>rw [z] at e; cases e
    | some j =>
      rw [z] at e
      have e':(ρ[j]?).getD none = some d:=Option.some.inj e
      refine ⟨j,rfl,?_⟩
      cases w : ρ[j]? with
      | none=>rw [w] at e'; cases e'
      | some o=>rw [w] at e'; exact congrArg some e'
theorem nM {own:List Str} {js:List Nat} {σ:St} {i j:Nat} {v:V} (hi:own.length ≤ i) (hj:js[i - own.length]? = some j) (hv : σ[j]? = some (some v)):(bG own js σ)[i]? = some (some v):=by
  unfold bG
  rw [List.getElem?_append_right (by simpa using hi),List.getElem?_map]
  simp only [List.length_map]
  rw [hj,show (some j).map _ = some ((σ[j]?).getD none) from rfl,hv]; rfl
structure CGM (k0 n:Nat) (g:TG) (m:MG):Prop where
  sg:SG ⟨owM k0,owM k0,false⟩ g m
  kp:ve n g
  mn:MonG g
theorem lh {k0 n:Nat} (i:Nat) (h:i < n:=by decide) (hk:n ≤ k0:=by decide):CGM k0 n (hV i) (gj i) :=
  ⟨fun C G ρ σ H pd d v k K hm r p hh kk=>by
    have hn:(owM k0)[i]? ≠ some true:=fun z=>by have:=e9.mp z; exact zo332 h hk this
    obtain ⟨O,r⟩:=r; exact kk _ _ hh ⟨O,r.setS hn (hm.no hn) p⟩,
   fun σ0 h0 σ x H k hk hg=>⟨fQ hk (h0 i h),hg⟩,fun x σ H k k' hk h=>hk _ _ h⟩
theorem lm {ow:List Bool} {J:It} {g:TG} {mg:MG} {tt:TT} {mt:MT} {te:TE} {me:ME} {C:Ctx} {G:Hp} {ρ:DSt} {σ:St} {H:Hp} {pd:List (D × V)} {ds:List D} {own:List Str} {js:List Nat} {j0 k0:Nat} {d0:D} {K:List D → D → Prop} {Z:List V → Hp → Prop}
    (r:R C ow G ρ σ H pd) (ho:ow[j0]? = some true) (hk0:own.length ≤ k0) (hjk:js[k0 - own.length]? = some j0) (hj:∀ (i j:Nat),js[i]? = some j → i ≠ k0 - own.length → ow[j]? ≠ some true) (he : ρ[j0]? = some (some d0)) (jo:kb J G ds) (cg:CGM k0 own.length g mg) (st:STe (owM k0) tt mt) (se:SE (owM k0) te me)
    (hl:ds.length ≤ 1000) (h:ur mg mt me (dg own.length js ρ) k0 ds d0 K)
    (k:∀ es d vs G' H',K es d → aJ G G' → R C ow G' (ρ.set j0 (some d)) σ H' pd → Reps G' es vs → vs.length ≤ 1000 → Z vs H'):lz J g tt te (bG own js σ) H Z:=by
  obtain ⟨O,ro⟩:=r
  obtain ⟨v0,hv0,sv0⟩:=ro.sl j0 d0 he
  rw [if_pos ho] at sv0
  let fin:Nat → Option Nat:=fun l=>if l = 2 * j0 then some (2 * k0) else none
  let fbk:Nat → Option Nat:=fun l=>if l = 2 * k0 then some (2 * j0) else none
  let C1:Ctx:=⟨G,H,cv fin O,muM k0 v0,0⟩
  let ρ0:=dg own.length js ρ
  have s0k:(bG own js σ)[k0]? = some (some v0):=nM hk0 hjk hv0
  have r0l:k0 < ρ0.length:=by
    have:k0 - own.length < js.length:=(List.getElem?_eq_some_iff.mp hjk).1
    show k0 < (dg own.length js ρ).length
    unfold dg; simp; exact zo199 hk0 this
  have fino:∀ l l',fin l = some l' → l = 2 * j0 ∧ l' = 2 * k0:=fun l l' e=>by
    change (if l = 2 * j0 then _ else _) = _ at e
    split at e
    · rename_i c; exact ⟨c,(Option.some.inj e).symm⟩
    · cases e
  have finj:fin (2 * j0) = some (2 * k0):=by show (if _ then _ else _) = _; rw [if_pos rfl]
  -- the inner state,by the owned slot's value
  have inner:∀ {G':Hp} {H':Hp} {O':Own} {d:D},aJ G G' → aJ G' H' → (∀ a o,G' a = some o → G a = some o ∨ H a = none) → (∀ a l,O' a = some l → G' a = none ∧ (∃ xs:WrO,H' a = some xs.ho) ∧ Nw C1 a l.1) →
      (∀ a o,H a = some o → cv fin O a = none → H' a = some o) → (∀ a,H' a = none → H a = none) → Sep G' H' O' (2 * k0) d [] v0 → RO C1 (owM k0) G' (ρ0.set k0 (some d)) (bG own js σ) H' [] O':=by
    intro G' H' O' d z gh gn og fr al sp
    refine ⟨by rw [List.length_set]; show (dg own.length js ρ).length = _; unfold dg bG; simp,gh,z,gn,og,?_,fr,al,?_,?_,trivial,Nat.le_refl _⟩
    · intro a l π e
      obtain ⟨l0,e1,e2⟩:=eT e
      obtain ⟨_,rfl⟩:=fino _ _ e2
      exact .inl ⟨k0,v0,rfl,vt k0 v0⟩
    · intro i w e
      obtain ⟨rfl,rfl⟩:=nX e
      exact s0k
    · intro i d' e
      rcases dE e with ⟨rfl,e'⟩ | ⟨hne,e'⟩
      · cases e'
        exact ⟨v0,s0k,by rw [if_pos (e9.mpr rfl)]; exact sp⟩
      · obtain ⟨hi,j,h1,h2⟩:=sT e'
        obtain ⟨v,g1,g2⟩:=ro.sl j d' h2
        rw [if_neg (hj _ j h1 (by exact zo79 hk0 hne hi))] at g2
        exact ⟨v,nM hi h1 g1,by rw [if_neg (fun zz=>hne (e9.mp zz))]; exact g2.mono z⟩
  have og1:∀ a l,cv fin O a = some l → G a = none ∧ (∃ xs:WrO,H a = some xs.ho) ∧ Nw C1 a l.1:=fun a l e=>by
    obtain ⟨l',π⟩:=l
    obtain ⟨l0,e1,e2⟩:=eT e
    obtain ⟨q1,q2,_⟩:=ro.og a _ e1
    exact ⟨q1,q2,.inr ⟨π,e⟩⟩
  have eg:R C1 (owM k0) G (ρ0.set k0 (some d0)) (bG own js σ) H []:=⟨_,inner (aJ.refl _) ro.gh (fun _ _ e=>.inl e) og1 (fun _ _ e _=>e) (fun _ e=>e) (sv0.keep (fun _ _ z=>z) fun a τ q=>⟨nq q finj,rfl⟩)⟩
  obtain ⟨I,i0,turn,fini⟩:=h
  have hmu:gW C1 (owM k0):=fun i v e=>by obtain ⟨rfl,_⟩:=nX e; exact e9.mpr rfl
  refine ⟨fun i m acc H'=>m = ds.length - i ∧ i ≤ ds.length ∧ acc.length ≤ i ∧ ∃ G' es d,aJ G G' ∧ R C1 (owM k0) G' (ρ0.set k0 (some d)) (bG own js σ) H' [] ∧ Reps G' es acc ∧ I i es d,⟨_,rfl,Nat.zero_le _,Nat.le_refl _,G,[],d0,aJ.refl _,eg,bN,i0⟩,?_⟩
  rintro i m acc H' ⟨rfl,hi,ha,G',es,d,z,r',pa,w⟩
  obtain ⟨sp,go⟩:=jo C1 (owM k0) G' _ _ H' [] i z r'
  by_cases hlt:i < ds.length
  · obtain ⟨g1,g2⟩:=go ds[i] (List.getElem?_eq_getElem hlt)
    refine .inr ⟨g1,bY (by exact zo87 hl ha hlt),fun acc' H2=>acc'.length ≤ i + 1 ∧ ∃ G2 es2 d2,aJ G G2 ∧ R C1 (owM k0) G2 (ρ0.set k0 (some d2)) (bG own js σ) H2 [] ∧ Reps G2 es2 acc' ∧ I (i + 1) es2 d2,fun acc' H2 h=>⟨ds.length - (i + 1),by exact zo20 hlt,rfl,hlt,h.1,h.2⟩,fun x H1 hy=>?_⟩
    obtain ⟨G1,z1,r1,p1⟩:=g2 x H1 hy
    have step1:=cg.sg C1 G1 _ _ H1 [] ds[i] x _ (fun σ2 H2=>∃ ρ2,(mt ρ2 fun b ρ3=>if b = true then me ρ3 fun y ρ4=>(match ρ4[k0]? with | some (some d')=>I (i + 1) (es ++ [y]) d' | _=>False) else match ρ3[k0]? with | some (some d')=>I (i + 1) es d' | _=>False) ∧ R C1 (owM k0) G1 ρ2 σ2 H2 []) hmu r1 p1 (turn i ds[i] es d (List.getElem?_eq_getElem hlt) w) (fun ρ2 σ2 h2 r2=>⟨ρ2,h2,r2⟩)
    refine cg.mn _ _ _ _ _ ?_ (cg.kp (bG own js σ) e_ (bG own js σ) x H1 _ (c_ _) step1)
    rintro σ2 H2 ⟨hkp,ρ2,h2,r2⟩
    refine ⟨hkp,st C1 G1 ρ2 σ2 H2 [] _ _ r2 h2 fun b ρ3 G3 H3 h3 z3 kp3 r3=>?_⟩
    have bk:∀ {G4:Hp} {ρ4:DSt} {H4:Hp} {d':D},ρ4[k0]? = some (some d') → R C1 (owM k0) G4 ρ4 σ2 H4 [] → R C1 (owM k0) G4 (ρ0.set k0 (some d')) (bG own js σ) H4 []:=fun e4 ⟨O4,r4⟩=>by
      obtain ⟨v,q1,q2⟩:=r4.sl k0 _ e4
      rw [if_pos (e9.mpr rfl)] at q2
      rw [eK hkp k0 v0 s0k] at q1
      cases q1
      exact ⟨O4,inner r4.g0 r4.gh r4.gn r4.og r4.fr r4.al q2⟩
    cases b with
    | true =>
      rw [if_pos rfl] at h3 ⊢
      refine se C1 G3 ρ3 σ2 H3 [] _ _ r3 h3 fun y ρ4 v G4 H4 h4 z4 kp4 r4 p4=>?_
      split at h4
      · rename_i d' e4
        exact ⟨by simp; exact vd ha,G4,es ++ [y],d',z.trans (z1.trans (z3.trans z4)),bk e4 r4,fw (Reps.mono (z1.trans (z3.trans z4)) _ _ pa) (bA p4 bN),h4⟩
      · exact h4.elim
    | false =>
      rw [if_neg (by decide)] at h3 ⊢
      split at h3
      · rename_i d' e4
        exact ⟨by exact zo89 ha,G3,es,d',z.trans (z1.trans z3),bk e4 r3,Reps.mono (z1.trans z3) _ _ pa,h3⟩
      · exact h3.elim
  · have e:i = ds.length:=by exact zo64 hi hlt
    subst e
    refine .inl ⟨sp (Nat.le_refl _),dz (by exact zo54 hl ha),?_⟩
    obtain ⟨O2,r2⟩:=r'
    refine k es d acc G' H' (fini es d w) z ⟨mL fin fbk O O2,?_⟩ pa (by exact zo54 hl ha)
    refine ro.out (vs:=[]) r2 ?_ (by rw [List.length_set]; exact ro.len) ro.np ?_ ?_ fun O3 h1 h2 ts=>?_
    · intro l0 l' l e1 e2
      obtain ⟨rfl,rfl⟩:=fino _ _ e1
      change (if 2 * k0 = 2 * k0 then _ else _) = _ at e2
      rw [if_pos rfl] at e2
      exact (Option.some.inj e2).symm
    · intro i d' c e
      rcases dE e with ⟨rfl,_⟩ | ⟨_,e'⟩
      · exact absurd ho c
      · exact e'
    · intro i d' c e
      rcases dE e with ⟨rfl,e'⟩ | ⟨hne,e'⟩
      · cases e'
        exact .inr ⟨k0,v0,by show (if _ then _ else _) = _; rw [if_pos rfl],e9.mpr rfl,by rw [List.getElem?_set_self r0l],hv0,s0k⟩
      · exact .inl ⟨by show (if _ then _ else _) = _; rw [if_neg (by exact zo85 hne)],e'⟩
    · exact bX.keep ts (fun a j π hj e=>h1 a _ _ e (by show (if _ then _ else _) = _; rw [if_neg (by exact zo285)])) ro.pn
section
variable {X:Cx} {ow:List Bool} {elt tg iter:Expr} {ifs:List Expr} {pos:Pos} {mi:MA} {mg:MG} {mt:MT} {me:ME} {scope:Scope} {cl:List (Str × Addr)}
theorem k8 {wi:TI} {g:TG} {own:List Str} {js:List Nat} {j0 k0:Nat} (si:SI ow wi mi) (cg:CGM k0 own.length g mg) (ho:ow[j0]? = some true) (hk0:own.length ≤ k0) (hjk:js[k0 - own.length]? = some j0) (hj:∀ (i j:Nat),js[i]? = some j → i ≠ k0 - own.length → ow[j]? ≠ some true) :
    SF ow (jp wi g (pw (owM k0) mt) (pN (owM k0) me) own js) (mR mi mg mt me own.length js j0 k0):=fun C G ρ σ H pd q Q r h k =>
  si C G ρ σ H pd _ _ r h fun ds ρ' G' H' J hq z kp r' jo=>by
    obtain ⟨hl,hq⟩:=hq
    split at hq
    · rename_i d0 e0
      refine lm r' ho hk0 hjk hj e0 jo cg kx mF hl hq fun es d vs G2 H2 hK z2 r2 p2 hl p hp=>?_
      obtain ⟨O2,r2⟩:=r2
      exact k _ _ _ _ _ hK.2 (z.trans z2) (kp.trans fun j hj=>List.getElem?_set_ne (fun (zz:j0 = j)=>hj (zz ▸ ho))) (r2.newL hp hK.1 p2)
    · exact hq.elim
structure CInnM (X:Cx) (k0:Nat) (tg:Expr) (ifs:List Expr) (elt:Expr) (g:TG) (mt:MT) (me:ME):Prop where
  pg:PG X tg g
  qi:QIf X (owM k0) ifs mt
  qe:QE X (owM k0) elt me
theorem qN {g:TG} (own:List Str) (js:List Nat) (j0 k0:Nat) (c:CompOk X scope cl own js) (hc:X.calm = true) (hi:QI X ow tg iter mi) (cg:CGM k0 own.length g mg)
    (inner:∀ (C:Addr) (s₀:Shared) (H₀:Hp) (ex:List Addr),CInnM (bz X scope cl (cF X own js) C s₀ H₀ ex) k0 tg ifs elt g mt me) (ho:ow[j0]? = some true:=by decide) (hk0:own.length ≤ k0:=by decide) (hjk:js[k0 - own.length]? = some j0:=by rfl)
    (hj:(js.mapIdx fun i j=>decide (i = k0 - own.length) || !decide (ow[j]? = some true)).all id = true:=by decide)
    (hs:∀ x,foldedSetIterable iter X.env x = pure x:=by intro _; rfl):QF X ow (.ListComp elt [⟨tg,iter,ifs,0⟩] scope pos) (mR mi mg mt me own.length js j0 k0):=by
  obtain ⟨wi,pi,si⟩:=hi
  have hj':∀ (i j:Nat),js[i]? = some j → i ≠ k0 - own.length → ow[j]? ≠ some true:=fun i j e hne z=>by
    rw [List.all_eq_true] at hj
    have:=hj (decide (i = k0 - own.length) || !decide (ow[j]? = some true)) (List.mem_of_getElem? (i:=i) (by rw [List.getElem?_mapIdx,e]; rfl))
    simp [hne,z] at this
  exact ⟨_,ko own js c hc pi (fun C s₀ H₀ ex=>⟨(inner C s₀ H₀ ex).pg,(inner C s₀ H₀ ex).qi.can,(inner C s₀ H₀ ex).qe.can⟩) hs,k8 si cg ho hk0 hjk hj'⟩
end
section
variable {X:Cx} {M:Md} {a b c e:Expr} {ma mb mc:ME} {pos pos' p1 p2 p3:Pos} {te:TE} {j1:Nat} {ow:List Bool}
theorem g8:∀ {a b:List D},imms a = true → imms b = true → imms (a ++ b) = true
  | [],b,_,h=>h
  | d :: a,b,h,h2=>by rw [imms,Bool.and_eq_true] at h; rw [List.cons_append,imms,h.1,g8 h.2 h2]; rfl
theorem kP {g:TG} {mg:MG} {mt:MT} {me:ME} {mi:MA} {tg iter elt:Expr} {ifs:List Expr} {scope:Scope} {cl:List (Str × Addr)} {i:Nat} {y:Str} {spos py:Pos} (own:List Str) (js:List Nat) (j0 k0:Nat) (c:CompOk X scope cl own js) (hc:X.calm = true) (hN:X.N.Nodup) (hy:X.N[i]? = some y) (hx:Loc X.env.scope y) (hi:QI X M.ow tg iter mi) (cg:CGM k0 own.length g mg)
    (inner:∀ (C:Addr) (s₀:Shared) (H₀:Hp) (ex:List Addr),CInnM (bz X scope cl (cF X own js) C s₀ H₀ ex) k0 tg ifs elt g mt me) (hoj:M.ow[j0]? = some true:=by decide) (hk0:own.length ≤ k0:=by decide) (hjk:js[k0 - own.length]? = some j0:=by rfl)
    (hj:(js.mapIdx fun i j=>decide (i = k0 - own.length) || !decide (M.ow[j]? = some true)).all id = true:=by decide) (ho:M.ow[i]? ≠ some true:=by decide) (hu:M.mu[i]? ≠ some true:=by decide)
    (hsw:swapsWith (.ListComp elt [⟨tg,iter,ifs,0⟩] scope pos) (some (.Name y py)) spos.line X.env = pure true:=by rfl)
    (hs:∀ x,foldedSetIterable iter X.env x = pure x:=by intro _; rfl) (hf:X.fn y = true ∨ X.env.scope.names.lookup y = some .local:=by first | exact .inl rfl | exact .inr rfl | assumption) :
    QS X M (.Assign [.Name y py] (.ListComp elt [⟨tg,iter,ifs,0⟩] scope pos) spos) (j7 i (mR mi mg mt me own.length js j0 k0)):=by
  obtain ⟨wi,pi,si⟩:=hi
  have hj':∀ (i j:Nat),js[i]? = some j → i ≠ k0 - own.length → M.ow[j]? ≠ some true:=fun i j e hne z=>by
    rw [List.all_eq_true] at hj
    have:=hj (decide (i = k0 - own.length) || !decide (M.ow[j]? = some true)) (List.mem_of_getElem? (i:=i) (by rw [List.getElem?_mapIdx,e]; rfl))
    simp [hne,z] at this
  exact ⟨_,d4 own js c hc hN hy hx pi (fun C s₀ H₀ ex=>⟨(inner C s₀ H₀ ex).pg,(inner C s₀ H₀ ex).qi.can,(inner C s₀ H₀ ex).qe.can⟩) hsw hs hf,l7 (k8 si cg hoj hk0 hjk hj').se ho hu⟩
end
def isW:D → Bool
  | .int _=>true
  | _=>false
def btw (lo hi:Int):D → Bool
  | .int i=>decide (lo ≤ i) && decide (i ≤ hi)
  | _=>false
structure Tree (ps rs:List Int):Prop where
  len:ps.length = rs.length
  lo : 1 ≤ ps.length
  hi:ps.length ≤ 23
  par:∀ (i:Nat) (x:Int),ps[i]? = some x → 0 ≤ x ∧ x ≤ i
  room:∀ (i:Nat) (x:Int),rs[i]? = some x → 1 ≤ x ∧ x ≤ 1000000
def su:SpD:=fun ds q=>∃ d,ds = [d] ∧ d.isS = false ∧ q (.bl (isW d)) []
def oT:SpD:=fun ds q=>∃ d lo hi,ds = [d,.int lo,.int hi] ∧ d.isS = false ∧ q (.bl (btw lo hi d)) []
def xa:SpD:=fun ds q=>∃ ps rs,ds = [aL ps rs] ∧ Tree ps rs ∧ q (.bl true) []
def xl:SpD:=fun ds q=>∃ ps rs,ds = [aL ps rs] ∧ Tree ps rs ∧ q .non []
def rz (ns:List Int) (k:Int):Int:=ns.getD k.toNat 0
def nh (K:PySem.W.Frag) (φ:Addr → Prop) (ns:List Int):Prop:=∀ a H,φ a → SqL K H a (ns.map V.int)
def wu (K:PySem.W.Frag):SpD:=fun ds q=>∃ φ ns k,ds = [.scr φ ns,.int k] ∧ nh K φ ns ∧ 0 ≤ k ∧ q (.int (rz ns k)) []
def xi:SpD:=fun ds q=>∃ c m many,ds = [ai [c,m],.int many] ∧ 0 ≤ c ∧ 0 < many ∧ Sm many ∧ ∀ r c' m',0 ≤ r → r < many → 0 ≤ c' → q (.int r) [some (ai [c',m'])]
def rZ (K:PySem.W.Frag):SpD:=fun ds q=>∃ φ ns,ds = [.scr φ ns] ∧ nh K φ ns ∧ ns.length ≤ 63 ∧ q (.bl true) []
def nL (K:PySem.W.Frag):Sp:=fun vs H Q _=>∃ (a:Addr) (ns:List Int),vs = [.ref a] ∧ Only H ∧ SqL K H a (ns.map V.int) ∧ ns.length ≤ 63 ∧ ∀ H',Q (.bl true) H'
theorem rL {K:PySem.W.Frag} {vs:List V} {H:Hp} {Q:VK} {E:XK} (h:nL K vs H Q E):bt [false] false (rZ K) vs H Q E:=by
  obtain ⟨a,ns,rfl,hO,hS,hl,hq⟩:=h
  have main:∀ φ:Addr → Prop,nh K φ ns → Rep H (.scr φ ns) (.ref a) → bt [false] false (rZ K) [.ref a] H Q E:=fun φ hφ r=>by
    refine ⟨⟨H,H,fun _=>none,[none],0⟩,H,[.scr φ ns],fun d _=>d = .bl true,rfl,rfl,⟨fun _=>none,rfl,aJ.refl _,aJ.refl _,fun _ _ e=>.inl e,fun a l e=>by (first | cases e),fun a l π e=>by (first | cases e),fun _ _ e _=>e,fun _ e=>e,fun i v e=>?_,?_,trivial,Nat.le_refl _⟩,⟨φ,ns,rfl,hφ,hl,rfl⟩,rfl,?_⟩
    · cases i with
      | zero=>simp at e
      | succ i=>simp at e
    · intro i d e
      cases i with
      | zero=>simp at e; subst e; exact ⟨_,rfl,by simpa using r⟩
      | succ i=>simp at e
    · intro d ρ' σ' v G' H' hd _ _ hr
      subst hd
      unfold Ret at hr
      rw [if_neg (by decide)] at hr
      rw [b9 hr.2]
      exact hq H'
  rcases hS with (h1 | ⟨o,h1⟩) | h1
  · rcases hO a with z | ⟨o,xs,z⟩
    · rw [h1] at z; cases z
    · rw [h1] at z; cases z
  · exact main (fun _=>False) (fun _ _ z=>z.elim) (by rw [Rep]; exact ⟨a,rfl,.inl ⟨o,h1⟩⟩)
  · exact main (fun b=>b = a) (fun b H' z=>by subst z; exact .inr h1) (by rw [Rep]; exact ⟨a,rfl,.inr rfl⟩)
theorem bT {ns:List Int} {k:Int} (h0 : 0 ≤ k) (h1:k < ns.length):atI (ns.map D.int) k = some (.int (ns.getD k.toNat 0)):=by
  have ek:k = ((k.toNat:Nat):Int):=by exact rV h0
  have hl:k.toNat < ns.length:=by exact zo93 h1 ek
  have:atI (ns.map D.int) ((k.toNat:Nat):Int) = some (.int (ns.getD k.toNat 0)):=eZ (by rw [List.getElem?_map,List.getD_eq_getElem?_getD,List.getElem?_eq_getElem hl]; rfl)
  rw [← ek] at this
  exact this
theorem vM {ns:List Int} {k:Int} (h0 : 0 ≤ k) (h1:k < ns.length):atI ns k = some (ns.getD k.toNat 0):=by
  have ek:k = ((k.toNat:Nat):Int):=by exact rV h0
  have hl:k.toNat < ns.length:=by exact zo93 h1 ek
  have:atI ns ((k.toNat:Nat):Int) = some (ns.getD k.toNat 0):=eZ (by rw [List.getD_eq_getElem?_getD,List.getElem?_eq_getElem hl]; rfl)
  rw [← ek] at this
  exact this
theorem bi {ds:List D} {k:Int} {d:D} {q:D → Prop} (h:atI ds k = some d) (hq:q d):atD ds k q:=by unfold atD; rw [h]; exact hq
theorem gS {ns:List Int} {i:Nat} {d:D} (h:(ns.map D.int)[i]? = some d):∃ z,ns[i]? = some z ∧ d = .int z:=by
  rw [List.getElem?_map] at h
  cases e:ns[i]? with
  | none=>rw [e] at h; cases h
  | some z=>rw [e] at h; exact ⟨z,rfl,(Option.some.inj h).symm⟩
theorem dt {lo hi z:Int} (h1:lo ≤ z) (h2:z ≤ hi):btw lo hi (.int z) = true:=by show (decide (lo ≤ z) && decide (z ≤ hi)) = true; rw [decide_eq_true h1,decide_eq_true h2]; rfl
abbrev bO (ps:List Int) (k:Int):Int:=ps.getD (k - 1).toNat 0
theorem Tree.up {ps rs:List Int} (hT:Tree ps rs) {k:Int} (h0 : 0 < k) (h1:k ≤ ps.length) : 0 ≤ bO ps k ∧ bO ps k < k:=by
  have hl:(k - 1).toNat < ps.length:=by exact zo213 h0 h1
  have e:ps[(k - 1).toNat]? = some (bO ps k):=by unfold bO; rw [List.getD_eq_getElem?_getD,List.getElem?_eq_getElem hl]; rfl
  have:=hT.par _ _ e
  exact zo147 h0 this
inductive Up (ps:List Int):Int → List Int → Prop
  | zero:Up ps 0 [0]
  | step {k:Int} {u:List Int} (h : 0 < k):Up ps (bO ps k) u → Up ps k (k :: u)
theorem Up.det {ps:List Int} {k:Int} {u:List Int} (h:Up ps k u):∀ {v:List Int},Up ps k v → u = v:=by
  induction h with
  | zero=>intro v h; cases h with | zero=>rfl | step h0 _=>(first|lia|omega)
  | step h0 _ ih=>intro v h; cases h with | zero=>(first|lia|omega) | step _ h=>rw [ih h]
theorem Up.all {ps rs:List Int} (hT:Tree ps rs):∀ (n:Nat) (k:Int),k.toNat = n → 0 ≤ k → k ≤ ps.length → ∃ u,Up ps k u
  | n,k,hn,h0,h1=>by
    by_cases hk:k = 0
    · subst hk; exact ⟨_,.zero⟩
    · have hp:=hT.up (k:=k) (by exact zo305 h0 hk) h1
      obtain ⟨u,hu⟩:=Up.all hT (bO ps k).toNat (bO ps k) rfl hp.1 (by exact zo0 h1 hp)
      exact ⟨_,.step (by exact qu h0 hp) hu⟩
termination_by n k hn=>n
decreasing_by exact zo36 hn h0 hk hp
theorem Up.le {ps rs:List Int} (hT:Tree ps rs) {k:Int} {u:List Int} (h:Up ps k u):k ≤ ps.length → ∀ x ∈ u,0 ≤ x ∧ x ≤ k:=by
  induction h with
  | zero=>intro _ x hx; simp at hx; exact zo338 hx
  | step h0 _ ih =>
    intro h1 x hx
    have hp:=hT.up h0 h1
    rcases List.mem_cons.mp hx with rfl | hx
    · exact zo346 h0
    · have:=ih (by exact zo0 h1 hp) x hx; exact zo231 hp this
theorem Up.head {ps:List Int} {k:Int} {u:List Int} (h:Up ps k u):k ∈ u:=by cases h <;> simp
inductive Climb (ps:List Int):Int → Int → List Int → Int → Prop
  | same (a:Int):Climb ps a a [] a
  | left {a b:Int} {w:List Int} {m:Int} (h:b < a):Climb ps b (bO ps a) w m → Climb ps a b (a :: w) m
  | right {a b:Int} {w:List Int} {m:Int} (h:a < b):Climb ps a (bO ps b) w m → Climb ps a b (b :: w) m
theorem Climb.meet {ps rs:List Int} (hT:Tree ps rs) {a b m:Int} {w:List Int} (h:Climb ps a b w m) : 0 ≤ a → 0 ≤ b → a ≤ ps.length → b ≤ ps.length → ∀ {ua ub:List Int},Up ps a ua → Up ps b ub → m ∈ ua ∧ m ∈ ub ∧ ∀ x ∈ ua,x ∈ ub → x ≤ m:=by
  induction h with
  | same a=>intro a0 _ a1 _ ua ub ha hb; have:=ha.det hb; subst this; exact ⟨ha.head,ha.head,fun x hx _=>(ha.le hT a1 x hx).2⟩
  | left hlt hc ih =>
    intro a0 b0 a1 b1 ua ub ha hb
    cases ha with
    | zero=>(first|lia|omega)
    | step h0 hu =>
      have hp:=hT.up h0 a1
      obtain ⟨m1,m2,m3⟩:=ih b0 hp.1 b1 (by exact zo0 a1 hp) hb hu
      refine ⟨List.mem_cons_of_mem _ m2,m1,fun x hx hxb=>?_⟩
      rcases List.mem_cons.mp hx with rfl | hx
      · have:=(hb.le hT b1 _ hxb).2; exact uU hlt this
      · exact m3 x hxb hx
  | right hlt hc ih =>
    intro a0 b0 a1 b1 ua ub ha hb
    cases hb with
    | zero=>(first|lia|omega)
    | step h0 hu =>
      have hp:=hT.up h0 b1
      obtain ⟨m1,m2,m3⟩:=ih a0 hp.1 a1 (by exact zo0 b1 hp) ha hu
      refine ⟨m1,List.mem_cons_of_mem _ m2,fun x hx hxb=>?_⟩
      rcases List.mem_cons.mp hxb with rfl | hxb
      · have:=(ha.le hT a1 _ hx).2; exact uU hlt this
      · exact m3 x hx hxb
theorem Climb.low {ps rs:List Int} (hT:Tree ps rs) {a b m:Int} {w:List Int} (h:Climb ps a b w m) : 0 ≤ a → 0 ≤ b → a ≤ ps.length → b ≤ ps.length → 0 ≤ m ∧ m ≤ a ∧ m ≤ b:=by
  induction h with
  | same a=>intro a0 _ _ _; exact zo350 a0
  | left hlt hc ih=>intro a0 b0 a1 b1; have hp:=hT.up (show 0 < _ by exact o8 hlt a0 b0) a1; have:=ih b0 hp.1 b1 (by exact zo0 a1 hp); exact zo166 hlt this
  | right hlt hc ih=>intro a0 b0 a1 b1; have hp:=hT.up (show 0 < _ by exact oQ hlt a0 b0) b1; have:=ih a0 hp.1 a1 (by exact zo0 b1 hp); exact zo167 hlt this
theorem Climb.perm {ps rs:List Int} (hT:Tree ps rs) {a b m:Int} {w:List Int} (h:Climb ps a b w m) : 0 ≤ a → 0 ≤ b → a ≤ ps.length → b ≤ ps.length → ∀ {ua ub um:List Int},Up ps a ua → Up ps b ub → Up ps m um → w.Perm ((ua ++ ub).filter fun x=>!um.contains x):=by
  induction h with
  | same a =>
    intro a0 _ a1 _ ua ub um ha hb hm
    have:=ha.det hb; subst this
    have:=ha.det hm; subst this
    have:(ua ++ ua).filter (fun x=>!ua.contains x) = []:=by
      rw [List.filter_eq_nil_iff]; intro x hx; simp at hx; simp [hx]
    rw [this]
  | @left a b w m hlt hc ih =>
    intro a0 b0 a1 b1 ua ub um ha hb hm
    cases ha with
    | zero=>(first|lia|omega)
    | step h0 hu =>
      have hp:=hT.up h0 a1
      have hl:=hc.low hT b0 hp.1 b1 (by exact zo0 a1 hp)
      have ih':=ih b0 hp.1 b1 (by exact zo0 a1 hp) hb hu hm
      have hn : ¬ um.contains a = true:=fun z=>by
        have:=(hm.le hT (by exact qH b1 hl) _ (List.contains_iff_mem.mp z)).2
        exact tW hlt hl this
      rw [List.cons_append,List.filter_cons_of_pos (by simpa using hn)]
      refine List.Perm.cons _ (ih'.trans ?_)
      exact List.Perm.filter _ List.perm_append_comm
  | @right a b w m hlt hc ih =>
    intro a0 b0 a1 b1 ua ub um ha hb hm
    cases hb with
    | zero=>(first|lia|omega)
    | step h0 hu =>
      have hp:=hT.up h0 b1
      have hl:=hc.low hT a0 hp.1 a1 (by exact zo0 b1 hp)
      have ih':=ih a0 hp.1 a1 (by exact zo0 b1 hp) ha hu hm
      have hn : ¬ um.contains b = true:=fun z=>by
        have:=(hm.le hT (by exact qH a1 hl) _ (List.contains_iff_mem.mp z)).2
        exact tW hlt hl this
      refine (List.Perm.cons _ ih').trans ?_
      refine List.Perm.trans ?_ (List.Perm.filter _ (List.perm_middle (l₁:=_)).symm)
      rw [List.filter_cons_of_pos (by simpa using hn)]
theorem Climb.mem {ps rs:List Int} (hT:Tree ps rs) {a b m:Int} {w:List Int} (h:Climb ps a b w m) : 0 ≤ a → 0 ≤ b → a ≤ ps.length → b ≤ ps.length → ∀ x ∈ w,0 < x ∧ x ≤ ps.length:=by
  induction h with
  | same a=>intro _ _ _ _ x hx; cases hx
  | left hlt hc ih =>
    intro a0 b0 a1 b1 x hx
    have hp:=hT.up (show 0 < _ by exact o8 hlt a0 b0) a1
    rcases List.mem_cons.mp hx with rfl | hx
    · exact zo84 a0 a1 hp
    · exact ih b0 hp.1 b1 (by exact zo0 a1 hp) x hx
  | right hlt hc ih =>
    intro a0 b0 a1 b1 x hx
    have hp:=hT.up (show 0 < _ by exact oQ hlt a0 b0) b1
    rcases List.mem_cons.mp hx with rfl | hx
    · exact zo84 b0 b1 hp
    · exact ih a0 hp.1 a1 (by exact zo0 b1 hp) x hx
theorem Climb.len {ps rs:List Int} (hT:Tree ps rs) {a b m:Int} {w:List Int} (h:Climb ps a b w m) : 0 ≤ a → 0 ≤ b → a ≤ ps.length → b ≤ ps.length → (w.length:Int) ≤ a + b:=by
  induction h with
  | same a=>intro _ _ _ _; simp; (first|lia|omega)
  | left hlt hc ih=>intro a0 b0 a1 b1; have hp:=hT.up (show 0 < _ by exact o8 hlt a0 b0) a1; have:=ih b0 hp.1 b1 (by exact zo0 a1 hp); simp; exact zo235 hp this
  | right hlt hc ih=>intro a0 b0 a1 b1; have hp:=hT.up (show 0 < _ by exact oQ hlt a0 b0) b1; have:=ih a0 hp.1 a1 (by exact zo0 b1 hp); simp; exact zo237 hp this
theorem Climb.det {ps:List Int} {a b m:Int} {w:List Int} (h:Climb ps a b w m):∀ {m':Int} {w':List Int},Climb ps a b w' m' → w = w' ∧ m = m':=by
  induction h with
  | same a=>intro m' w' h; cases h with | same=>exact ⟨rfl,rfl⟩ | left h _=>(first|lia|omega) | right h _=>(first|lia|omega)
  | left hlt hc ih=>intro m' w' h; cases h with | same=>(first|lia|omega) | left _ h=>have:=ih h; exact ⟨by rw [this.1],this.2⟩ | right h _=>(first|lia|omega)
  | right hlt hc ih=>intro m' w' h; cases h with | same=>(first|lia|omega) | right _ h=>have:=ih h; exact ⟨by rw [this.1],this.2⟩ | left h _=>(first|lia|omega)
structure Ends2 (ps:List Int) (a b:Int):Prop where
  a0 : 0 ≤ a
  a1:a ≤ ps.length
  b0 : 0 ≤ b
  b1:b ≤ ps.length
  ne:a ≠ b
def sD:SpD:=fun ds q=>∃ ps rs d,ds = [aL ps rs,d] ∧ d.isS = false ∧ q (.bl (btw 0 ps.length d)) []
def vy:SpD:=fun ds q=>∃ ps rs a b,ds = [aL ps rs,.int a,.int b] ∧ Ends2 ps a b ∧ q (.bl true) []
def lS:SpD:=fun ds q=>∃ ps rs a b,ds = [aL ps rs,.int a,.int b] ∧ Tree ps rs ∧ Ends2 ps a b ∧ q .non []
def tK:SpD:=fun ds q=>∃ ps rs a b,ds = [aL ps rs,.int a,.int b] ∧ Tree ps rs ∧ 0 ≤ a ∧ a ≤ ps.length ∧ 0 ≤ b ∧ b ≤ ps.length ∧ ∀ w m,Climb ps a b w m → q (.tup [ai (cw w),.int m]) []
def sdWay:SpD:=fun ds q=>∃ ps rs a b,ds = [aL ps rs,.int a,.int b] ∧ Tree ps rs ∧ Ends2 ps a b ∧ ∀ w m,Climb ps a b w m → q (ai (cw w)) []
theorem pA (ps:List Int) (y:Int):D.lst (ps.map D.int ++ [D.int y]) = ai (ps ++ [y]):=by unfold ai; rw [List.map_append]; rfl
theorem aK (ps:List Int):(ps.map D.int).length = ps.length:=List.length_map _
theorem gY {ns:List Int} {k:Nat} (h:k < ns.length):ns.getD k 0 ∈ ns:=by rw [List.getD_eq_getElem?_getD,List.getElem?_eq_getElem h]; exact List.getElem_mem h
theorem nS {P:Nat → Int → Prop} {ps:List Int} {y:Int} (h:∀ (j:Nat) (x:Int),ps[j]? = some x → P j x) (hy:P ps.length y):∀ (j:Nat) (x:Int),(ps ++ [y])[j]? = some x → P j x:=by
  intro j x hj
  by_cases hjl:j < ps.length
  · rw [List.getElem?_append_left hjl] at hj; exact h j x hj
  · rw [List.getElem?_append_right (by exact pH hjl)] at hj
    cases e:j - ps.length with
    | zero => rw [e] at hj; have:y = x:=by simpa using hj
              subst this; rw [show j = ps.length by exact zo33 hjl e]; exact hy
    | succ q=>rw [e] at hj; simp at hj
def filD (p:Int → Bool):D → Option D
  | .int x=>if p x = true then some (.int x) else none
  | _=>none
theorem jb {p:Int → Bool}:∀ (ns:List Int),(ns.map D.int).filterMap (filD p) = (ns.filter p).map D.int
  | []=>rfl
  | n :: r=>by
    have ih:=jb (p:=p) r
    have e0:filD p (.int n) = if p n = true then some (.int n) else none:=rfl
    cases e:p n with
    | true=>rw [e,if_pos rfl] at e0; rw [List.map_cons,List.filterMap_cons,e0,List.filter_cons_of_pos e,List.map_cons,← ih]
    | false=>rw [e,if_neg (by decide)] at e0; rw [List.map_cons,List.filterMap_cons,e0,List.filter_cons_of_neg (by rw [e]; decide),← ih]
theorem gg (ns:List Int):(ns.map D.int).all dM = true:=by
  induction ns with
  | nil=>rfl
  | cons n r ih=>rw [List.map_cons,List.all_cons,ih]; rfl
theorem ix (x:Int) (ns:List Int):inD (.int x) (ns.map D.int) = ns.contains x:=by
  unfold inD
  induction ns with
  | nil=>rfl
  | cons n r ih =>
    rw [List.map_cons,List.any_cons,ih,List.contains_cons]
    show ((n == x) || _) = _
    rw [Bool.beq_comm]
theorem dP {ns:List Int} {d:D} (h:d ∈ ns.map D.int):∃ x ∈ ns,d = .int x:=by
  obtain ⟨x,h1,h2⟩:=List.mem_map.mp h
  exact ⟨x,h1,h2.symm⟩
theorem fM (ns:List Int):okD (ai ns) = true:=ll ns
theorem eqDi (ns ms:List Int):eqD (ai ns) (ai ms) = decide (ns = ms):=r6 ns ms
def sdTie:SpD:=fun ds q=>∃ ps rs d,ds = [aL ps rs,d] ∧ d.isS = false ∧ q (.bl (btw 1 ps.length d)) []
def oK:SpD:=fun ds q=>∃ ps rs a b,ds = [aL ps rs,.int a,.int b] ∧ Tree ps rs ∧ 1 ≤ a ∧ a ≤ ps.length ∧ 1 ≤ b ∧ b ≤ ps.length ∧ ∀ u,Up ps (bO ps a) u → q (.bl (u.contains b)) []
def lay:Nat → D → Bool
  | _,.int _=>true
  | _,.bl _=>true
  | _,.non=>true
  | n + 1,.tup ds=>ds.all (lay n)
  | n + 1,.lst ds=>ds.all (lay n)
  | _,_=>false
theorem jU {n:Nat} (ih:∀ d,lay n d = true → (toP d).canLay0 = true ∧ (toP d).depth ≤ n + 1):∀ ds:List D,ds.all (lay n) = true → PyData.canLayAll0 (toPs ds) = true ∧ PyData.depthAll (toPs ds) ≤ n + 1
  | [],_=>by rw [toPs]; simp [PyData.canLayAll0,PyData.depthAll]
  | d :: ds,h=>by
    rw [List.all_cons,Bool.and_eq_true] at h
    have h1:=ih d h.1
    have h2:=jU ih ds h.2
    rw [toPs]
    simp only [PyData.canLayAll0,PyData.depthAll,h1.1,h2.1,Bool.and_self,true_and]
    (first|lia|omega)
theorem lQ:∀ (n:Nat) (d:D),lay n d = true → (toP d).canLay0 = true ∧ (toP d).depth ≤ n + 1
  | n,.int _,_=>by rw [toP]; simp [PyData.canLay0,PyData.depth]
  | n,.bl _,_=>by rw [toP]; simp [PyData.canLay0,PyData.depth]
  | n,.non,_=>by rw [toP]; simp [PyData.canLay0,PyData.depth]
  | n + 1,.tup ds,h=>by
    have:=jU (lQ n) ds (by simpa [lay] using h)
    rw [toP]; simp only [PyData.canLay0,PyData.depth,this.1,true_and]; (first|lia|omega)
  | n + 1,.lst ds,h=>by
    have:=jU (lQ n) ds (by simpa [lay] using h)
    rw [toP]; simp only [PyData.canLay0,PyData.depth,this.1,true_and]; (first|lia|omega)
  | 0,.tup _,h=>by simp [lay] at h
  | 0,.lst _,h=>by simp [lay] at h
  | n,.str _,h=>by cases n <;> simp [lay] at h
  | n,.dct,h=>by cases n <;> simp [lay] at h
  | n,.dic _ _,h=>by cases n <;> simp [lay] at h
  | n,.scr _ _,h=>by cases n <;> simp [lay] at h
  | n,.ext _,h=>by cases n <;> simp [lay] at h
theorem ki {n:Nat} {d:D} (h:lay n d = true) (hn:n ≤ 60):okD d = true:=by
  have:=lQ n d h
  unfold okD SeqAt.shaped
  rw [this.1,Bool.true_and]
  exact decide_eq_true (by (first|lia|omega))
theorem kl {n:Nat} (ih:∀ d,lay n d = true → PyData.eqv (toP d) (toP d) = true):∀ ds:List D,ds.all (lay n) = true → PyData.eqvAll (toPs ds) (toPs ds) = true
  | [],_=>by rw [toPs]; simp [PyData.eqvAll]
  | d :: ds,h=>by
    rw [List.all_cons,Bool.and_eq_true] at h
    rw [toPs,PyData.eqvAll,ih d h.1,kl ih ds h.2]; rfl
theorem g_:∀ (n:Nat) (d:D),lay n d = true → eqD d d = true
  | n,.int _,_=>by unfold eqD; rw [toP,PyData.eqv]; simp
  | n,.bl _,_=>by unfold eqD; rw [toP,PyData.eqv]; simp
  | n,.non,_=>by unfold eqD; rw [toP,PyData.eqv]
  | n + 1,.tup ds,h=>by unfold eqD; rw [toP,PyData.eqv]; exact kl (g_ n) ds (by simpa [lay] using h)
  | n + 1,.lst ds,h=>by unfold eqD; rw [toP,PyData.eqv]; exact kl (g_ n) ds (by simpa [lay] using h)
  | 0,.tup _,h=>by simp [lay] at h
  | 0,.lst _,h=>by simp [lay] at h
  | n,.str _,h=>by cases n <;> simp [lay] at h
  | n,.dct,h=>by cases n <;> simp [lay] at h
  | n,.dic _ _,h=>by cases n <;> simp [lay] at h
  | n,.scr _ _,h=>by cases n <;> simp [lay] at h
  | n,.ext _,h=>by cases n <;> simp [lay] at h
theorem i3 (n:Nat) (ns:List Int):(ns.map D.int).all (lay n) = true:=by
  rw [List.all_eq_true]; intro d hd; obtain ⟨x,_,rfl⟩:=dP hd; cases n <;> rfl
theorem iK (n:Nat) (ns:List Int):lay (n + 1) (ai ns) = true:=by unfold ai; rw [lay]; exact i3 n ns
structure Ask where
  one:Int
  other:Int
  size:Int
  worth:Int
def cT (a:Ask):D:=.tup [.int a.one,.int a.other,.int a.size,.int a.worth]
def aO (as:List Ask):D:=.lst (as.map cT)
structure AskOk (ps:List Int) (a:Ask):Prop where
  ends:Ends2 ps a.one a.other
  s0 : 1 ≤ a.size
  s1:a.size ≤ 1000000
  w0 : 1 ≤ a.worth
  w1:a.worth ≤ 1000000000000
structure AsksOk (ps:List Int) (as:List Ask):Prop where
  len:as.length ≤ 30
  ok:∀ a ∈ as,AskOk ps a
theorem oN (as:List Ask):imms (as.map cT) = true:=by
  induction as with
  | nil=>rfl
  | cons a r ih=>rw [List.map_cons,imms,ih]; rfl
theorem oH (n:Nat) (as:List Ask):lay (n + 2) (aO as) = true:=by
  unfold aO; rw [lay,List.all_eq_true]; intro d hd
  obtain ⟨a,_,rfl⟩:=List.mem_map.mp hd
  rw [cT,lay]
  exact i3 n [a.one,a.other,a.size,a.worth]
theorem tz {as:List Ask} {i:Nat} {d:D} (h:(as.map cT)[i]? = some d):∃ a,as[i]? = some a ∧ d = cT a:=by
  rw [List.getElem?_map] at h
  cases e:as[i]? with
  | none=>rw [e] at h; cases h
  | some z=>rw [e] at h; exact ⟨z,rfl,(Option.some.inj h).symm⟩
def oB:Ask:=⟨0,0,0,0⟩
theorem lq {as:List Ask} {k:Int} (h0 : 0 ≤ k) (h1:k < as.length):atI (as.map cT) k = some (cT (as.getD k.toNat oB)):=by
  have ek:k = ((k.toNat:Nat):Int):=by exact rV h0
  have hl:k.toNat < as.length:=by exact zo93 h1 ek
  have:atI (as.map cT) ((k.toNat:Nat):Int) = some (cT (as.getD k.toNat oB)):=eZ (by rw [List.getElem?_map,List.getD_eq_getElem?_getD,List.getElem?_eq_getElem hl]; rfl)
  rw [← ek] at this
  exact this
theorem lH {as:List Ask} {k:Nat} (h:k < as.length):as.getD k oB ∈ as:=by rw [List.getD_eq_getElem?_getD,List.getElem?_eq_getElem h]; exact List.getElem_mem h
theorem b4 (as:List Ask):(as.map cT).length = as.length:=List.length_map _
theorem iS (as:List Ask) (a:Ask):D.lst (as.map cT ++ [cT a]) = aO (as ++ [a]):=by unfold aO; rw [List.map_append]; rfl
def sA:SpD:=fun ds q=>∃ ps rs a,ds = [aL ps rs,cT a] ∧ AskOk ps a ∧ q (.bl true) []
def mK:SpD:=fun ds q=>∃ ps rs as,ds = [aL ps rs,aO as] ∧ Tree ps rs ∧ AsksOk ps as ∧ q .non []
def gt (ps:List Int):Nat → Int → Int → List Int
  | 0,_,_=>[]
  | f + 1,a,b=>if b < a then a :: gt ps f b (bO ps a) else if a < b then b :: gt ps f a (bO ps b) else []
def gU (ps:List Int):Nat → Int → Int → Int
  | 0,a,_=>a
  | f + 1,a,b=>if b < a then gU ps f b (bO ps a) else if a < b then gU ps f a (bO ps b) else a
theorem ez {ps rs:List Int} (hT:Tree ps rs):∀ (f:Nat) (a b:Int),(a + b).toNat ≤ f → 0 ≤ a → 0 ≤ b → a ≤ ps.length → b ≤ ps.length → Climb ps a b (gt ps f a b) (gU ps f a b)
  | 0,a,b,hf,a0,b0,_,_=>by
    have:a = b:=by exact zo152 hf a0 b0
    subst this
    exact .same a
  | f + 1,a,b,hf,a0,b0,a1,b1=>by
    unfold gt gU
    by_cases h1:b < a
    · rw [if_pos h1,if_pos h1]
      have hp:=hT.up (show 0 < a by exact zo75 a0 b0 h1) a1
      exact .left h1 (ez hT f b _ (by exact zo51 hf b0 h1 hp) b0 hp.1 b1 (by exact zo0 a1 hp))
    · rw [if_neg h1,if_neg h1]
      by_cases h2:a < b
      · rw [if_pos h2,if_pos h2]
        have hp:=hT.up (show 0 < b by exact u6 a0 b0 h2) b1
        exact .right h2 (ez hT f a _ (by exact zo45 hf a0 h2 hp) a0 hp.1 a1 (by exact zo0 b1 hp))
      · rw [if_neg h2,if_neg h2]
        have:a = b:=by exact zo259 h1 h2
        subst this
        exact .same a
def b5 (ps:List Int) (a b:Int):List Int:=cw (gt ps 100 a b)
def ng (ps:List Int) (a b:Int):Int:=gU ps 100 a b
theorem Climb.way {ps rs:List Int} (hT:Tree ps rs) {a b m:Int} {w:List Int} (h:Climb ps a b w m) (a0 : 0 ≤ a) (b0 : 0 ≤ b) (a1:a ≤ ps.length) (b1:b ≤ ps.length):cw w = b5 ps a b ∧ m = ng ps a b:=by
  have hi:=hT.hi
  have:=h.det (ez hT 100 a b (by exact zo49 a1 b1 hi) a0 b0 a1 b1)
  exact ⟨by rw [this.1]; rfl,this.2⟩
theorem gJ {ps rs:List Int} (hT:Tree ps rs) {a b:Int} (a0 : 0 ≤ a) (b0 : 0 ≤ b) (a1:a ≤ ps.length) (b1:b ≤ ps.length):∃ w,Climb ps a b w (ng ps a b) ∧ b5 ps a b = cw w:=by
  have hi:=hT.hi
  exact ⟨_,ez hT 100 a b (by exact zo49 a1 b1 hi) a0 b0 a1 b1,rfl⟩
theorem cD {ps rs:List Int} (hT:Tree ps rs) {a b:Int} (he:Ends2 ps a b) {x:Int} (hx:x ∈ b5 ps a b) : 0 < x ∧ x ≤ ps.length:=by
  obtain ⟨w,hw,e⟩:=gJ hT he.a0 he.b0 he.a1 he.b1
  rw [e] at hx
  exact hw.mem hT he.a0 he.b0 he.a1 he.b1 x ((bJ w).mem_iff.mp hx)
def bp (ps:List Int) (a:Ask):List Int:=b5 ps a.one a.other
def sv:SpD:=fun ds q=>∃ ps rs a,ds = [aL ps rs,cT a] ∧ Tree ps rs ∧ Ends2 ps a.one a.other ∧ q (ai (bp ps a)) []
theorem sH {n:Nat} {k:Int} (h0 : 0 ≤ k) (h1:k < n):ixN n k = some k.toNat:=by unfold ixN; rw [if_pos h0,if_pos h1]
theorem lV {ps:List Int} {a r:Int} (a0 : 0 ≤ a) (a1:a < 1 + (ps.length:Int)) (r0 : 0 ≤ r) (r1:r < ps.length):Ends2 ps a ((a + 1 + r) % (1 + (ps.length:Int))):=by
  refine ⟨a0,by exact t7 a1,Int.emod_nonneg _ (by exact zo377),?_,?_⟩
  · have:=Int.emod_lt_of_pos (a + 1 + r) (show 0 < 1 + (ps.length:Int) by exact zo370); exact t7 this
  · intro he
    by_cases hlt:a + 1 + r < 1 + (ps.length:Int)
    · rw [Int.emod_eq_of_lt (by exact zo270 a0 r0 he) hlt] at he; exact zo362 r0 he
    · have e:(a + 1 + r) % (1 + (ps.length:Int)) = a + 1 + r - (1 + (ps.length:Int)):=by
        rw [← Int.sub_emod_right,Int.emod_eq_of_lt (by exact zo252 he hlt) (by exact zo202 a1 r1 he)]
      exact zo258 r1 he e
theorem Climb.nodup {ps rs:List Int} (hT:Tree ps rs) {a b m:Int} {w:List Int} (h:Climb ps a b w m) : 0 ≤ a → 0 ≤ b → a ≤ ps.length → b ≤ ps.length → w.Nodup ∧ ∀ x ∈ w,x ≤ max a b:=by
  induction h with
  | same a=>intro _ _ _ _; exact ⟨List.nodup_nil,fun x h=>by cases h⟩
  | @left a b w m hlt hc ih =>
    intro a0 b0 a1 b1
    have hp:=hT.up (show 0 < a by exact o8 hlt a0 b0) a1
    obtain ⟨h1,h2⟩:=ih b0 hp.1 b1 (by exact zo0 a1 hp)
    refine ⟨List.nodup_cons.mpr ⟨fun z=>by have:=h2 a z; (first|lia|omega),h1⟩,fun x hx=>?_⟩
    rcases List.mem_cons.mp hx with rfl | hx
    · (first|lia|omega)
    · have:=h2 x hx; (first|lia|omega)
  | @right a b w m hlt hc ih =>
    intro a0 b0 a1 b1
    have hp:=hT.up (show 0 < b by exact oQ hlt a0 b0) b1
    obtain ⟨h1,h2⟩:=ih a0 hp.1 a1 (by exact zo0 b1 hp)
    refine ⟨List.nodup_cons.mpr ⟨fun z=>by have:=h2 b z; (first|lia|omega),h1⟩,fun x hx=>?_⟩
    rcases List.mem_cons.mp hx with rfl | hx
    · (first|lia|omega)
    · have:=h2 x hx; (first|lia|omega)
theorem gm {ps rs:List Int} (hT:Tree ps rs) {a b:Int} (he:Ends2 ps a b):(b5 ps a b).Nodup:=by
  obtain ⟨w,hw,e⟩:=gJ hT he.a0 he.b0 he.a1 he.b1
  rw [e]
  exact (bJ w).nodup_iff.mpr (hw.nodup hT he.a0 he.b0 he.a1 he.b1).1
section
variable {X:Cx}
end
section
variable {X:Cx} {M:Md} {e:Expr} {ma:ME} {pos:Pos}
end
def eqB:Value → Bool
  | .bool a=>a == true
  | _=>false
def vF:V → List V → Hp → VK → Prop:=fun x vs H Q=>∃ (l:Addr) (bs:List Bool),x = .ref l ∧ vs = [.bl true] ∧ H l = some (.lst (bs.map V.bl)) ∧ Q (.int (bs.countP id:Nat)) H
theorem jn:∀ {bs:List Bool} {us:List Value},aZ (bs.map V.bl) us → us = bs.map Value.bool
  | [],_,.nil=>rfl
  | b :: bs,_,.cons r t=>by rw [jn (bs:=bs) t]; cases r; rfl
theorem g6:∀ bs:List Bool,(bs.map Value.bool).countP eqB = bs.countP id
  | []=>rfl
  | b :: bs=>by rw [List.map_cons,List.countP_cons,List.countP_cons,g6 bs]; cases b <;> rfl
section
variable {X:Cx}
theorem rY:MtM X "list.count" vF:=by
  (try refine ⟨?_⟩); intro pins s σ H x vs v us Q I rx rv h
  obtain ⟨l,bs,rfl,rfl,hH,q⟩:=h
  cases rx
  obtain ⟨u,rfl,ru⟩:=rv.one
  cases ru
  obtain ⟨z,its,n,r,hl,e⟩:=I.lstM hH
  have ei:=jn r
  subst ei
  refine call_meets F.slot_list_count ⟨_,e,rfl⟩ F.entry_list_count (F.args_list_count_2 _ _)
    (SeqAt.list_countAt l (bs.map Value.bool).toArray n none #[] (.bool true) eqB) ⟨e,fun y hy=>?_,?_⟩
  · obtain ⟨b,hb,rfl⟩:=List.mem_map.mp (List.mem_toArray.mp hy)
    exact SeqAt.EqAt.bool_bool b true
  · refine ⟨.int (bs.countP id:Nat),H,I.tok _,⟨s.toks,?_⟩,q⟩
    show Value.int (((bs.map Value.bool).toArray.toList.countP eqB:Nat):Int) s.toks = _
    rw [← g6]
variable {ow:List Bool} {e:Expr} {ma:ME}
theorem iW {G:Hp}:∀ {bs:List Bool} {xs:List V},Reps G (bs.map D.bl) xs → xs = bs.map V.bl
  | [],xs,h=>by rw [List.map_nil,Reps] at h; subst h; rfl
  | n :: r,xs,h=>by rw [List.map_cons,Reps] at h; obtain ⟨v,vs,rfl,h1,h2⟩:=h; rw [b9 h1,iW h2]; rfl
def wW (m:ME):ME:=fun ρ q=>m ρ fun d ρ1=>match d with
  | .lst ds=>∃ bs:List Bool,ds = bs.map D.bl ∧ q (.int (bs.countP id:Nat)) ρ1
  | _=>False
theorem pZ {j1:Nat} {p1 apos cpos:Pos} (h:QE X ow e ma)
    (hbase:attributeBase e "count" X.env (eval e X.env) = eval e X.env:=by rfl)
    (hfew:((backTo cpos (starEach [.Constant (.bool true) j1 p1] X.env)).all (fun x=>!x.1) && (backToKw cpos (keywordEach [] X.env)).all (fun x=>x.1.isSome)
      && decide (([.Constant (.bool true) j1 p1]:List Expr).length + ([]:List Keyword).length + (if ([]:List Keyword).isEmpty then 0 else 1) < 30)) = true:=by rfl)
    (hline:(apos.endLine == cpos.line) = true:=by rfl) (hst:starEach [.Constant (.bool true) j1 p1] X.env = [(false,eval (.Constant (.bool true) j1 p1) X.env)]:=by rfl) :
    QE X ow (.Call (.Attribute e "count" apos) [.Constant (.bool true) j1 p1] [] cpos) (wW ma):=by
  obtain ⟨t,p,s⟩:=h
  refine ⟨_,pP PySem.F.plainAttrs_list PySem.F.slot_list_count PySem.F.type_list_count rY p (bK uC cO hst) hbase hfew hline hst (by rfl),fun C G ρ σ H pd q Q r hm k=>s C G ρ σ H pd _ _ r hm fun d ρ' v G' H' hq z kp r' pp=>?_⟩
  cases d with
  | lst ds =>
    obtain ⟨bs,rfl,hq⟩:=hq
    obtain ⟨l,xs,rfl,h1,h2⟩:=a6 pp
    have ex:=iW h2
    subst ex
    refine ⟨.inl ⟨rfl,_,SqL.of (r'.gh _ _ h1)⟩,?_⟩
    refine ⟨l,bs,rfl,rfl,r'.gh _ _ h1,?_⟩
    exact k _ ρ' _ _ _ hq z kp r' (bq _)
  | _=>exact hq.elim
end
def kr (ns:List Int):List Int:=firstMet (fun i=>ns.getD i 0) ns.length
section
variable {X:Cx}
theorem iE (hc:X.calm = true):cq X (.type "set") (fun xs H Q=>∃ (a:Addr) (ns:List Int),xs = [.ref a] ∧ H a = some (.lst (ns.map V.int)) ∧ ns.length ≤ 1000 ∧ ∀ p,H p = none → Q (.ref p) (upd H p (.set (fun k=>(kr ns).any (· == k)) (kr ns).length))):=by
  (try refine ⟨?_⟩); intro pins s σ H xs us Q I r h
  obtain ⟨a,ns,rfl,ha,hl,q⟩:=h
  obtain ⟨u,rfl,ru⟩:=eB r
  cases ru
  obtain ⟨z,its,n,rv,hlen,e⟩:=I.lstM ha
  have hln:its.length = ns.length:=by rw [← hlen,List.length_map]
  refine call_set_list (items:=its.toArray) (ns:=ns) (I.ok.hd hc) (PySem.IsL.isList (n:=n) e) (by simpa using ie rv) (by rw [List.size_toArray]; unfold scanBound; exact zo296 hl hln) fun h' tk hS hk=>?_
  have hsz:its.toArray.size = ns.length:=by rw [List.size_toArray]; exact hln
  rw [hsz] at hS
  exact ⟨.ref s.heap.objs.size,_,I.laid (a:=s.heap.objs.size) (o:=.set _ _) (fun b o hb=>hk b o (Heap.lt_size hb) hb) (Nat.le_refl _) hS,rfl,q _ (I.hok.fresh (Nat.le_refl _))⟩
theorem iB:cq X (.builtin "len") (fun xs H Q=>∃ (a:Addr) (S:Int → Bool) (n:Nat),xs = [.ref a] ∧ H a = some (.set S n) ∧ Q (.int n) H):=by
  (try refine ⟨?_⟩); intro pins s σ H xs us Q I r h
  obtain ⟨a,S,n,rfl,ha,q⟩:=h
  obtain ⟨u,rfl,ru⟩:=eB r
  cases ru
  obtain ⟨o,es,ep,t,ho,hex,hd,_,_,hsb,hf,hn⟩:=(show bd X.prog X.w H s.heap a (.set S n) from I.hok a _ ha)
  subst hn
  exact call_len_set ho hex hd hf (by unfold scanBound at hsb; exact zo354 hsb) ⟨.int es.size,H,I.tok _,⟨_,rfl⟩,q⟩
variable {ow:List Bool} {e:Expr} {ma:ME} {pos p1 p2 p3:Pos}
def tT (m:ME):ME:=fun ρ q=>m ρ fun d ρ1=>match d with
  | .lst ds=>∃ ns:List Int,ds = ns.map D.int ∧ ns.length ≤ 1000 ∧ q (.int ((kr ns).length:Nat)) ρ1
  | _=>False
theorem oX (hc:X.calm = true) (h:QE X ow e ma) (hg:Gl X "len") (hm:X.mg "len" = none) (hg':Gl X "set") (hm':X.mg "set" = none) (hv:bootBuiltins "len" = some (.builtin "len"):=by rfl) (hv':bootBuiltins "set" = some (.type "set"):=by rfl)
    (he:starEach [e] X.env = [(false,eval e X.env)]:=by rfl)
    (he2:starEach [.Call (.Name "set" p2) [e] [] p1] X.env = [(false,eval (.Call (.Name "set" p2) [e] [] p1) X.env)]:=by rfl) :
    QE X ow (.Call (.Name "len" p3) [.Call (.Name "set" p2) [e] [] p1] [] pos) (tT ma):=by
  obtain ⟨t,p,s⟩:=h
  refine ⟨_,fD iB hg hm hv (bK (cZ (iE hc) hg' hm' hv' (bK p cO he) (by decide) (by decide) he (by rfl)) cO he2) (by decide) (by decide) he2 (by rfl),fun C G ρ σ H pd q Q r hm k=>s C G ρ σ H pd _ _ r hm fun d ρ' v G' H' hq z kp r' pp=>?_⟩
  cases d with
  | lst ds =>
    obtain ⟨ns,rfl,hl,hq⟩:=hq
    obtain ⟨l,xs,rfl,h1,h2⟩:=a6 pp
    have ex:=d7 h2
    subst ex
    refine ⟨l,ns,rfl,r'.gh _ _ h1,hl,fun p hp=>?_⟩
    obtain ⟨O,r'⟩:=r'
    obtain ⟨r2,z2⟩:=r'.new hp (.set (fun k=>(kr ns).any (· == k)) (kr ns).length)
    refine ⟨p,_,_,rfl,aH,?_⟩
    exact k _ ρ' _ _ _ hq (z.trans z2) kp ⟨O,r2⟩ (bq _)
  | _=>exact hq.elim
end
end L2
namespace L2
open PySem
structure DepOk (ps e:List Int) (n:Nat):Prop where
  len:e.length = n + 1
  up:∀ (k:Int) (u:List Int),0 ≤ k → k ≤ n → Up ps k u → e.getD k.toNat 0 + 1 = u.length
theorem dep0 (ps:List Int):DepOk ps [0] 0:=⟨rfl,fun k u h0 h1 hu=>by
  have:k = 0:=by exact zo334 h0 h1
  subst this
  cases hu with
  | zero=>rfl
  | step h _=>exact zo381 h⟩
inductive Pth (ps:List Int) (m:Int):Int → List Int → Prop
  | nil:Pth ps m m []
  | step {k:Int} {l:List Int} (h0 : 0 < k) (h:k ≠ m):Pth ps m (bO ps k) l → Pth ps m k (k :: l)
theorem Climb.pth {ps rs:List Int} (hT:Tree ps rs) {a b m:Int} {w:List Int} (h:Climb ps a b w m) : 0 ≤ a → 0 ≤ b → a ≤ ps.length → b ≤ ps.length → ∃ pa pb,Pth ps m a pa ∧ Pth ps m b pb ∧ w.Perm (pa ++ pb):=by
  induction h with
  | same a=>intro _ _ _ _; exact ⟨[],[],.nil,.nil,.nil⟩
  | left hlt hc ih =>
    intro a0 b0 a1 b1
    have hp:=hT.up (show 0 < _ by exact o8 hlt a0 b0) a1
    have hlow:=hc.low hT b0 hp.1 b1 (by exact zo0 a1 hp)
    obtain ⟨pb,pa,h1,h2,h3⟩:=ih b0 hp.1 b1 (by exact zo0 a1 hp)
    exact ⟨_ :: pa,pb,.step (by exact qu a0 hp) (by exact uw hlt hlow) h2,h1,(h3.trans List.perm_append_comm).cons _⟩
  | right hlt hc ih =>
    intro a0 b0 a1 b1
    have hp:=hT.up (show 0 < _ by exact oQ hlt a0 b0) b1
    have hlow:=hc.low hT a0 hp.1 a1 (by exact zo0 b1 hp)
    obtain ⟨pa,pb,h1,h2,h3⟩:=ih a0 hp.1 a1 (by exact zo0 b1 hp)
    exact ⟨pa,_ :: pb,h1,.step (by exact qu b0 hp) (by exact uw hlt hlow) h2,(h3.cons _).trans List.perm_middle.symm⟩
theorem Up.chain {ps rs:List Int} (hT:Tree ps rs) {b:Int} {u:List Int} (h:Up ps b u):b ≤ ps.length → ∀ {x y:Int},x ∈ u → y ∈ u → x ≤ y → ∃ uy,Up ps y uy ∧ x ∈ uy ∧ ∀ z ∈ uy,z ∈ u:=by
  induction h with
  | zero =>
    intro _ x y hx hy _
    have e:y = 0:=by simpa using hy
    subst e
    exact ⟨[0],.zero,hx,fun z hz=>hz⟩
  | @step k u h0 hu ih =>
    intro h1 x y hx hy hxy
    have hp:=hT.up h0 h1
    have hle:=hu.le hT (by exact zo0 h1 hp)
    rcases List.mem_cons.mp hy with hy' | hy'
    · subst hy'; exact ⟨_,.step h0 hu,hx,fun z hz=>hz⟩
    · rcases List.mem_cons.mp hx with hx' | hx'
      · have:=(hle y hy').2; (first|lia|omega)
      · obtain ⟨uy,g1,g2,g3⟩:=ih (by exact zo0 h1 hp) hx' hy' hxy
        exact ⟨uy,g1,g2,fun z hz=>.tail _ (g3 z hz)⟩
theorem Pth.len {ps:List Int} {m k:Int} {l um:List Int} (h:Pth ps m k l) (hm:Up ps m um):∀ {uk:List Int},Up ps k uk → uk.length = l.length + um.length:=by
  induction h with
  | nil=>intro uk h; rw [h.det hm]; simp
  | @step k l h0 hne hp ih =>
    intro uk h
    cases h with
    | zero=>exact zo383 h0
    | step _ h=>rw [List.length_cons,List.length_cons,ih h]; exact zo307
theorem way_deep {ps rs e w:List Int} {a b m:Int} (hT:Tree ps rs) (he:DepOk ps e ps.length) (a0 : 0 ≤ a) (a1:a ≤ ps.length) (b0 : 0 ≤ b) (b1:b ≤ ps.length) (h:Climb ps a b w m) :
    ((cw w).length:Int) = e.getD a.toNat 0 + e.getD b.toNat 0 - 2 * e.getD m.toNat 0:=by
  obtain ⟨pa,pb,h1,h2,h3⟩:=h.pth hT a0 b0 a1 b1
  have hlow:=h.low hT a0 b0 a1 b1
  obtain ⟨ua,ha⟩:=Up.all hT _ a rfl a0 a1
  obtain ⟨ub,hb⟩:=Up.all hT _ b rfl b0 b1
  obtain ⟨um,hm⟩:=Up.all hT _ m rfl hlow.1 (by exact qH a1 hlow)
  have e1:=h1.len hm ha
  have e2:=h2.len hm hb
  have d1:=he.up a ua a0 (by exact uX a1) ha
  have d2:=he.up b ub b0 (by exact uX b1) hb
  have d3:=he.up m um hlow.1 (by exact qH a1 hlow) hm
  have l1:=((bJ w).trans h3).length_eq
  rw [List.length_append] at l1
  exact zo24 e1 e2 d1 d2 d3 l1
theorem sB {ps rs w ua ub:List Int} {a b m t:Int} (hT:Tree ps rs) (a0 : 0 ≤ a) (a1:a ≤ ps.length) (b0 : 0 ≤ b) (b1:b ≤ ps.length) (h:Climb ps a b w m) (ha:Up ps a ua) (hb:Up ps b ub) :
    (cw w).contains t = (ua.contains t != ub.contains t):=by
  have hlow:=h.low hT a0 b0 a1 b1
  obtain ⟨um,hm⟩:=Up.all hT _ m rfl hlow.1 (by exact qH a1 hlow)
  obtain ⟨p1,p2,p3⟩:=h.meet hT a0 b0 a1 b1 ha hb
  have hp:=(bJ w).trans (h.perm hT a0 b0 a1 b1 ha hb hm)
  have k1:t ∈ um → t ∈ ua ∧ t ∈ ub:=fun ht=>by
    obtain ⟨u1,g1,_,g3⟩:=ha.chain hT a1 p1 p1 (Int.le_refl _)
    obtain ⟨u2,g1',_,g3'⟩:=hb.chain hT b1 p2 p2 (Int.le_refl _)
    rw [g1.det hm] at g3; rw [g1'.det hm] at g3'
    exact ⟨g3 _ ht,g3' _ ht⟩
  have k2:t ∈ ua → t ∈ ub → t ∈ um:=fun h1 h2=>by
    obtain ⟨u1,g1,g2,_⟩:=ha.chain hT a1 h1 p1 (p3 t h1 h2)
    rw [g1.det hm] at g2; exact g2
  have e:t ∈ cw w ↔ (t ∈ ua ∨ t ∈ ub) ∧ t ∉ um:=by
    rw [hp.mem_iff,List.mem_filter,List.mem_append]; simp
  have c:∀ l:List Int,l.contains t = decide (t ∈ l):=fun l=>by simp
  rw [c,c,c]
  by_cases x1:t ∈ ua <;> by_cases x2:t ∈ ub <;> simp [x1,x2,e] <;> first | exact k2 x1 x2 | exact fun z=>x2 (k1 z).2 | exact fun z=>x1 (k1 z).1 | skip
theorem pB {x y z:Int} (h:x = y ∨ y = z ∨ z = x):(kr [x,y,z]).length ≤ 2:=by
  unfold kr
  show (PyProof.Rows.firstMet _ 3).length ≤ 2
  rw [PyProof.Rows.firstMet_succ,PyProof.Rows.firstMet_succ,PyProof.Rows.firstMet_succ,PyProof.Rows.firstMet_zero]
  show (PyProof.Rows.step_dedup (PyProof.Rows.step_dedup (PyProof.Rows.step_dedup [] x) y) z).length ≤ 2
  unfold PyProof.Rows.step_dedup
  rcases h with h | h | h
  · subst h; simp; split <;> simp
  · subst h; simp; split <;> simp_all
  · subst h; simp; split <;> simp_all
end L2
namespace L2
open PySem PySem.Spec PyProof.Rows
section
variable {prog:Program} {w:World} {A:Around} {E:Value → Shared → Prop} {s:Shared}
end
section
variable {X:Cx} {M:Md} {e:Expr} {es:List Expr} {mgs:MGs} {pos:Pos}
end
section
variable {X:Cx} {M:Md} {pos:Pos}
end
def Itz (a b:Addr):It :=
  ⟨fun i H=>∃ xs ys x y,H a = some (.lst xs) ∧ H b = some (.lst ys) ∧ xs[i]? = some x ∧ ys[i]? = some y,
   fun i H v H'=>∃ p x y,H p = none ∧ v = .ref p ∧ H' = upd H p (.tup [x,y]) ∧ (∀ xs,H a = some (.lst xs) → xs[i]? = some x) ∧ ∀ ys,H b = some (.lst ys) → ys[i]? = some y,
   fun i H=>∃ xs ys,H a = some (.lst xs) ∧ H b = some (.lst ys) ∧ (xs.length ≤ i ∨ ys.length ≤ i)⟩
theorem mem5 {c a1 a2 a3 a4 a5:Addr} (h:c ∈ [a1,a2,a3,a4,a5]):c = a1 ∨ c = a2 ∨ c = a3 ∨ c = a4 ∨ c = a5:=by simpa using h
theorem mem4 {c a1 a2 a3 a4:Addr} (h:c ∈ [a1,a2,a3,a4]):c = a1 ∨ c = a2 ∨ c = a3 ∨ c = a4:=by simpa using h
theorem i_ {c a1 a2 a3 a4:Addr} (h:c ∉ [a1,a2,a3,a4]):c ≠ a1 ∧ c ≠ a2 ∧ c ≠ a3 ∧ c ≠ a4:=by simpa using h
theorem nd5 {z TI TO i1 i2:Addr} (h : [z,TI,TO,i1,i2].Nodup):(z ≠ TI ∧ z ≠ TO ∧ z ≠ i1 ∧ z ≠ i2) ∧ (TI ≠ TO ∧ TI ≠ i1 ∧ TI ≠ i2) ∧ (TO ≠ i1 ∧ TO ≠ i2) ∧ i1 ≠ i2:=by simpa using h
theorem gG {z TI TO i1 i2:Addr}:z ∈ [z,TI,TO,i1,i2] ∧ TI ∈ [z,TI,TO,i1,i2] ∧ TO ∈ [z,TI,TO,i1,i2] ∧ i1 ∈ [z,TI,TO,i1,i2] ∧ i2 ∈ [z,TI,TO,i1,i2]:=by simp
structure ZipSt (z TI TO i1 i2 a b:Addr) (i:Nat) (h:Heap):Prop where
  hz:IsZip h z TI TO .none
  ti:IsPair h TI (.ref i1) (.ref i2)
  to:∃ x y,IsPair h TO x y
  t1:h.IsListIter i1 a i
  t2:h.IsListIter i2 b i
theorem qF {P:Program} {w:World} {K:PySem.W.Frag} {es:List Expr} {k:Nat} {pos:Pos} (a b z TI TO i1 i2:Addr) (nd : [z,TI,TO,i1,i2].Nodup) :
    Turn P w K (.Tuple es k pos) (Itz a b) [z,TI,TO,i1,i2] z (ZipSt z TI TO i1 i2 a b) where
  mem:=gG.1
  obj:=fun i h st c hc=>by
    obtain ⟨hz,ti,⟨x,y,to⟩,⟨o1,e1,c1,d1⟩,⟨o2,e2,c2,d2⟩⟩:=st
    rcases mem5 hc with rfl | rfl | rfl | rfl | rfl
    · exact ⟨_,hz,fun v q=>by cases q⟩
    · exact ⟨_,ti,fun v q=>by cases q⟩
    · exact ⟨_,to,fun v q=>by cases q⟩
    · exact ⟨o1,e1,fun v q=>by rw [d1] at q; cases q⟩
    · exact ⟨o2,e2,fun v q=>by rw [d2] at q; cases q⟩
  keep:=fun i h h' st kp=>by
    obtain ⟨m1,m2,m3,m4,m5⟩:=gG (z:=z) (TI:=TI) (TO:=TO) (i1:=i1) (i2:=i2)
    obtain ⟨x,y,q⟩:=st.to
    exact ⟨kp z m1 _ st.hz,kp TI m2 _ st.ti,⟨x,y,kp TO m3 _ q⟩,st.t1.at fun o q=>kp i1 m4 o q,st.t2.at fun o q=>kp i2 m5 o q⟩
  item:=by
    intro X hP hw hK hc i pins s σ H E I hf st hg
    subst hP hw hK
    obtain ⟨xs,ys,x,y,hq1,hq2,hx,hy⟩:=hg
    obtain ⟨hz,ti,⟨ox,oy,to⟩,t1,t2⟩:=st
    obtain ⟨its1,rv1,p1,hz1⟩:=I.list (SqL.of hq1)
    obtain ⟨its2,rv2,p2,hz2⟩:=I.list (SqL.of hq2)
    obtain ⟨u,hu,ru⟩:=rv1.get hx
    obtain ⟨v,hv,rv⟩:=rv2.get hy
    obtain ⟨m1,m2,m3,m4,m5⟩:=gG (z:=z) (TI:=TI) (TO:=TO) (i1:=i1) (i2:=i2)
    have fz:=hf z m1; have fO:=hf TO m3; have f1:=hf i1 m4; have f2:=hf i2 m5
    obtain ⟨⟨n1,n2,n3,n4⟩,⟨n5,n6,n7⟩,⟨n8,n9⟩,n10⟩:=nd5 nd
    have la:∀ {c:Addr},H c = none → a ≠ c:=fun h=>au hq1 h
    have lb:∀ {c:Addr},H c = none → b ≠ c:=fun h=>au hq2 h
    have AP:ZipApart z TI TO i1 i2 a b:=⟨Ne.symm n1,Ne.symm n2,Ne.symm n3,Ne.symm n4,n5,n6,n7,n8,n9,n10,la fz.1,la fO.1,la f1.1,la f2.1,lb fz.1,lb fO.1,lb f1.1,lb f2.1⟩
    refine wpAny_pyNext_zip_item AP hz ti to t1 t2 p1.isList p2.isList (x:=u) (y:=v) (by simpa using hu) (by simpa using hv) fun h' zo to' t1' t2' ht hsz hk=>?_
    refine ⟨.ref s.heap.objs.size,rfl,?_⟩
    refine wpAny_letOwnedTupleGo_zip zo fun h2 he2 hs2=>?_
    have fr:H s.heap.objs.size = none:=I.hok.fresh (Nat.le_refl _)
    have ne2:∀ b,b < s.heap.objs.size → b ≠ s.heap.objs.size:=fun b hb=>Nat.ne_of_lt hb
    have ee:z < s.heap.objs.size:=Heap.lt_size hz
    have k2:∀ c o,c ≠ z → c ≠ TO → c ≠ i1 → c ≠ i2 → s.heap.get? c = some o → h2.get? c = some o:=fun c o c1 c2 c3 c4 q=>(hs2.2 c c1).trans (hk c o c1 c2 c3 c4 q)
    have ht2:h2.get? s.heap.objs.size = some { cls:=.type "tuple",data:=.seq #[u,v] }:=(hs2.2 _ (Nat.ne_of_gt ee)).trans ht
    have trk:∀ c o,H c = some o → c ≠ z ∧ c ≠ TO ∧ c ≠ i1 ∧ c ≠ i2:=fun c o q=>⟨au q fz.1,au q fO.1,au q f1.1,au q f2.1⟩
    have hok0:HOk X.prog X.w H h2:=fun c o q=>(I.hok c o q).stay (fun d v' hc q'=>by
      rcases hc with rfl | hc
      · obtain ⟨z1,z2,z3,z4⟩:=trk d _ q; exact k2 d v' z1 z2 z3 z4 q'
      · obtain ⟨z1,z2,z3,z4⟩:=trk d _ hc; exact k2 d v' z1 z2 z3 z4 q') (fun _ z=>z) fun _ _ z=>z
    have I1:Inv X pins σ (upd H s.heap.objs.size (.tup [x,y])) { s with heap:=h2,toks:=s.toks }:=by
      refine I.step (g':=s.gens) (d':=s.drawn) (ch:=[z,TO,i1,i2]) (fun c hc=>?_) (fun c o _ _ hc q _=>by obtain ⟨z1,z2,z3,z4⟩:=i_ hc; exact k2 c o z1 z2 z3 z4 q) (fun c o _ _ hc q _=>by obtain ⟨z1,z2,z3,z4⟩:=i_ hc; exact ⟨o.slots,k2 c o z1 z2 z3 z4 q⟩)
        (fun c o _ q n=>by rw [am (ne2 c (Heap.lt_size q))]; exact n) (fun c o hc q=>by obtain ⟨z1,z2,z3,z4⟩:=i_ hc; exact ⟨o,k2 c o z1 z2 z3 z4 q⟩) (fun c ys q=>by rw [am (au q fr)]; exact q) (fun c o v q=>by rw [am (au q fr)]; exact q)
        (fun c ps q=>⟨#[],by rw [am (au q fr),q]; simp⟩) (fun m hm=>?_) ?_ I.bare
      · rcases mem4 hc with rfl | rfl | rfl | rfl
        · exact ⟨fz.2.2.2.1,fz.2.1,fz.2.2.2.2.1,fz.2.2.2.2.2⟩
        · exact ⟨fO.2.2.2.1,fO.2.1,fO.2.2.2.2.1,fO.2.2.2.2.2⟩
        · exact ⟨f1.2.2.2.1,f1.2.1,f1.2.2.2.2.1,f1.2.2.2.2.2⟩
        · exact ⟨f2.2.2.2.1,f2.2.1,f2.2.2.2.2.1,f2.2.2.2.2.2⟩
      · obtain ⟨o,es',ep,ho,r⟩:=hm
        exact ⟨o,es',ep,k2 _ o (Ne.symm fz.2.1) (Ne.symm fO.2.1) (Ne.symm f1.2.1) (Ne.symm f2.2.1) ho,r⟩
      · exact hok0.adopt fr ⟨by show 2 ≤ sizeLine; decide,[u,v],.cons ru (.cons rv .nil),⟨_,ht2,rfl,_,rfl⟩⟩
    have lt:∀ c ∈ [z,TI,TO,i1,i2],c < s.heap.objs.size:=fun c hc=>by
      rcases mem5 hc with rfl | rfl | rfl | rfl | rfl
      · exact ee
      · exact Heap.lt_size ti
      · exact Heap.lt_size to
      · obtain ⟨o,q,_⟩:=t1; exact Heap.lt_size q
      · obtain ⟨o,q,_⟩:=t2; exact Heap.lt_size q
    refine ⟨.ref s.heap.objs.size,_,I1,rfl,⟨_,x,y,fr,rfl,rfl,fun ws hw=>by rw [hq1] at hw; cases hw; exact hx,fun ws hw=>by rw [hq2] at hw; cases hw; exact hy⟩,⟨he2,(hs2.2 _ (Ne.symm n1)).trans (hk TI _ (Ne.symm n1) n5 n6 n7 ti),⟨_,_,(hs2.2 _ (Ne.symm n2)).trans to'⟩,t1'.extBut hs2.extBut (Ne.symm n3),t2'.extBut hs2.extBut (Ne.symm n4)⟩,fun c hc=>?_⟩
    rw [am (ne2 c (lt c hc))]
    exact (hf c hc).1
  done:=by
    intro X hP hw hK hc i pins s σ H E I hf st hg
    subst hP hw hK
    obtain ⟨xs,ys,hq1,hq2,hend⟩:=hg
    obtain ⟨hz,ti,⟨ox,oy,to⟩,t1,t2⟩:=st
    obtain ⟨its1,rv1,p1,hz1⟩:=I.list (SqL.of hq1)
    obtain ⟨its2,rv2,p2,hz2⟩:=I.list (SqL.of hq2)
    obtain ⟨m1,m2,m3,m4,m5⟩:=gG (z:=z) (TI:=TI) (TO:=TO) (i1:=i1) (i2:=i2)
    have fz:=hf z m1; have fO:=hf TO m3; have f1:=hf i1 m4; have f2:=hf i2 m5
    obtain ⟨⟨n1,n2,n3,n4⟩,⟨n5,n6,n7⟩,⟨n8,n9⟩,n10⟩:=nd5 nd
    have la:∀ {c:Addr},H c = none → a ≠ c:=fun h=>au hq1 h
    have lb:∀ {c:Addr},H c = none → b ≠ c:=fun h=>au hq2 h
    have AP:ZipApart z TI TO i1 i2 a b:=⟨Ne.symm n1,Ne.symm n2,Ne.symm n3,Ne.symm n4,n5,n6,n7,n8,n9,n10,la fz.1,la fO.1,la f1.1,la f2.1,lb fz.1,lb fO.1,lb f1.1,lb f2.1⟩
    have l1:=rv1.length
    have l2:=rv2.length
    refine wpAny_pyNext_zip_end (I.ok.hd hc) AP hz ti to t1 t2 p1.isList p2.isList (by rcases hend with h | h; exact .inl (by simp; exact uF l1 h); exact .inr (by simp; exact uF l2 h)) fun h' hk=>⟨rfl,?_⟩
    have trk:∀ c o,H c = some o → c ≠ z ∧ c ≠ TO ∧ c ≠ i1 ∧ c ≠ i2:=fun c o q=>⟨au q fz.1,au q fO.1,au q f1.1,au q f2.1⟩
    refine I.step (g':=s.gens) (d':=s.drawn) (t':=s.toks) (ch:=[z,TO,i1,i2]) (fun c hc=>?_) (fun c o _ _ hc q _=>by obtain ⟨z1,z2,z3,z4⟩:=i_ hc; exact hk c o z1 z2 z3 z4 q) (fun c o _ _ hc q _=>by obtain ⟨z1,z2,z3,z4⟩:=i_ hc; exact ⟨o.slots,hk c o z1 z2 z3 z4 q⟩)
      (fun _ _ _ _ n=>n) (fun c o hc q=>by obtain ⟨z1,z2,z3,z4⟩:=i_ hc; exact ⟨o,hk c o z1 z2 z3 z4 q⟩) (fun _ _ e=>e) (fun _ _ _ e=>e) (fun c ps e=>⟨#[],by rw [e]; simp⟩) (fun m hm=>?_) (fun c o q=>?_) I.bare
    · rcases mem4 hc with rfl | rfl | rfl | rfl
      · exact ⟨fz.2.2.2.1,fz.2.1,fz.2.2.2.2.1,fz.2.2.2.2.2⟩
      · exact ⟨fO.2.2.2.1,fO.2.1,fO.2.2.2.2.1,fO.2.2.2.2.2⟩
      · exact ⟨f1.2.2.2.1,f1.2.1,f1.2.2.2.2.1,f1.2.2.2.2.2⟩
      · exact ⟨f2.2.2.2.1,f2.2.1,f2.2.2.2.2.1,f2.2.2.2.2.2⟩
    · obtain ⟨o,es',ep,ho,r⟩:=hm
      exact ⟨o,es',ep,hk _ o (Ne.symm fz.2.1) (Ne.symm fO.2.1) (Ne.symm f1.2.1) (Ne.symm f2.2.1) ho,r⟩
    · refine (I.hok c o q).stay (fun d v' hc q'=>?_) (fun _ z=>z) fun _ _ z=>z
      rcases hc with rfl | hc
      · obtain ⟨z1,z2,z3,z4⟩:=trk d _ q; exact hk d v' z1 z2 z3 z4 q'
      · obtain ⟨z1,z2,z3,z4⟩:=trk d _ hc; exact hk d v' z1 z2 z3 z4 q'
  self:=fun _ _ _ _ _ st h=>wpAny_pyIter_zip st.hz h
section
variable {X:Cx} {es:List Expr} {k:Nat} {tpos:Pos}
def iZip (ta:TA):TI:=fun σ H R=>ta σ H fun vs H1=>∃ a b,vs = [.ref a,.ref b] ∧ (∃ xs,H1 a = some (.lst xs)) ∧ (∃ ys,H1 b = some (.lst ys)) ∧ R (Itz a b) H1
theorem xo {l m:Expr} {ta:TA} {p pos:Pos} (hg:Gl X "zip") (hm:X.mg "zip" = none) (ha:PA X [l,m] ta) (hs:starEach [l,m] X.env = [(false,eval l X.env),(false,eval m X.env)]:=by rfl) (hs2:(backTo pos (starEach [m] X.env)).any (·.1) = false:=by rfl) (hs3:starEach [l,m] X.env = (false,eval l X.env) :: starEach [m] X.env:=by rfl):PI X (.Tuple es k tpos) (.Call (.Name "zip" p) [l,m] [] pos) (iZip ta):=by
  refine ⟨fun pins s σ H R I h=>?_⟩
  refine wpAny_Call_Name_kw (eD I hg hm wp ?_)
  refine PyProof.Rows.callWith_type1 (thn (ha pos pins s σ H _ I h) fun us s1 ⟨vs,H1,I1,r1,a,b,e,⟨xs,hx⟩,⟨ys,hy⟩,q⟩=>?_) hs3 hs2
  subst e
  obtain ⟨u,v,rfl,ru,rv⟩:=lu r1
  cases ru; cases rv
  obtain ⟨its1,rv1,p1,_⟩:=I1.list (SqL.of hx)
  obtain ⟨its2,rv2,p2,_⟩:=I1.list (SqL.of hy)
  refine call_zip_2 p1.isList p2.isList fun h' hz ti to t1 t2 hsz hk=>?_
  have I2:Inv X pins σ H1 { s1 with heap:=h' }:=I1.kept (t':=s1.toks) hk
  have nd : [s1.heap.objs.size + 4,s1.heap.objs.size + 2,s1.heap.objs.size + 3,s1.heap.objs.size,s1.heap.objs.size + 1].Nodup:=by
    simp only [List.nodup_cons,List.mem_cons,List.not_mem_nil,or_false,not_or,not_false_eq_true,List.nodup_nil,and_true]
    refine ⟨⟨?_,?_,?_,?_⟩,⟨?_,?_,?_⟩,⟨?_,?_⟩,?_⟩ <;> (first|lia|omega)
  refine wpAny_pyIter_zip hz ⟨s1.heap.objs.size + 4,_,_,Itz a b,H1,rfl,I2,qF a b _ _ _ _ _ nd,⟨hz,ti,⟨_,_,to⟩,t1,t2⟩,fun c hc=>?_,q⟩
  have hc':s1.heap.objs.size ≤ c:=by
    rcases mem5 hc with rfl | rfl | rfl | rfl | rfl
    · exact Nat.le_add_right _ 4
    · exact Nat.le_add_right _ 2
    · exact Nat.le_add_right _ 3
    · exact Nat.le_refl _
    · exact Nat.le_add_right _ 1
  exact I1.fpOk (H':=H1) hc' (I1.hok.fresh hc')
variable {ow:List Bool} {a b:Expr} {mr:MA} {pos:Pos}
def lY (ds es:List D):List D:=List.zipWith (fun a b=>.tup [a,b]) ds es
theorem nr {ds es:List D} {i:Nat} {d:D} (h:(lY ds es)[i]? = some d):∃ x y,ds[i]? = some x ∧ es[i]? = some y ∧ d = .tup [x,y]:=by
  unfold lY at h
  rw [List.getElem?_zipWith] at h
  cases e1:ds[i]? with
  | none=>rw [e1] at h; cases h
  | some x =>
    cases e2:es[i]? with
    | none=>rw [e1,e2] at h; cases h
    | some y=>rw [e1,e2] at h; exact ⟨x,y,rfl,rfl,(Option.some.inj h).symm⟩
theorem wb {G:Hp} {p q:Addr} {xs ys:List V} {ds es:List D} (h1:G p = some (.lst xs)) (h2:Reps G ds xs) (h3:G q = some (.lst ys)) (h4:Reps G es ys):kb (Itz p q) G (lY ds es):=fun C ow G' ρ σ H pd i z r=>by
  have hp:=r.gh _ _ (z _ _ h1)
  have hq:=r.gh _ _ (z _ _ h3)
  refine ⟨fun hl=>⟨xs,ys,hp,hq,?_⟩,fun d e=>?_⟩
  · rw [h2.length,h4.length]
    unfold lY at hl
    rw [List.length_zipWith] at hl
    (first|lia|omega)
  · obtain ⟨x,y,e1,e2,rfl⟩:=nr e
    obtain ⟨v,g1,g2⟩:=dq h2 e1
    obtain ⟨u,g3,g4⟩:=dq h4 e2
    refine ⟨⟨xs,ys,v,u,hp,hq,g1,g3⟩,fun w H' hy=>?_⟩
    obtain ⟨t,x',y',ht,rfl,rfl,hy1,hy2⟩:=hy
    have z1:=hy1 xs hp
    rw [g1] at z1; cases z1
    have z2:=hy2 ys hq
    rw [g3] at z2; cases z2
    obtain ⟨O,r⟩:=r
    obtain ⟨r2,s2⟩:=r.new ht (.tup [v,u])
    exact ⟨_,s2,⟨O,r2⟩,jQ aH (bA (Rep.mono (z.trans s2) _ _ g2) (bA (Rep.mono (z.trans s2) _ _ g4) bN))⟩
def miZip (m:MA):MA:=fun ρ q=>m ρ fun ds ρ'=>match ds with
  | [.lst ds,.lst es]=>q (lY ds es) ρ'
  | _=>False
theorem vU {p:Pos} (hg:Gl X "zip") (hm:X.mg "zip" = none) (ha:QA X ow [a,b] mr) (hs:starEach [a,b] X.env = [(false,eval a X.env),(false,eval b X.env)]:=by rfl) (hs2:(backTo pos (starEach [b] X.env)).any (·.1) = false:=by rfl) (hs3:starEach [a,b] X.env = (false,eval a X.env) :: starEach [b] X.env:=by rfl):QI X ow (.Tuple es k tpos) (.Call (.Name "zip" p) [a,b] [] pos) (miZip mr):=by
  obtain ⟨t,p,s⟩:=ha
  refine ⟨_,xo hg hm p hs hs2 hs3,fun C G ρ σ H pd q Q r hm k=>s C G ρ σ H pd _ _ r hm fun ds ρ' vs G' H' hq z kp r' p hn=>?_⟩
  split at hq
  · obtain ⟨v,u,rfl,p1,p2⟩:=dY p
    obtain ⟨a1,xs,rfl,h1,h2⟩:=a6 p1
    obtain ⟨a2,ys,rfl,h3,h4⟩:=a6 p2
    exact ⟨a1,a2,rfl,⟨xs,r'.gh _ _ h1⟩,⟨ys,r'.gh _ _ h3⟩,k _ ρ' G' H' _ hq z kp r' (wb h1 h2 h3 h4)⟩
  · exact hq.elim
end
end L2
namespace L2
open PySem
theorem jf {ps rs:List Int} (hT:Tree ps rs) {a b:Int} (he:Ends2 ps a b):(b5 ps a b).length ≤ 46:=by
  obtain ⟨w,hw,e⟩:=gJ hT he.a0 he.b0 he.a1 he.b1
  have h1:=hw.len hT he.a0 he.b0 he.a1 he.b1
  have h2:=hT.hi
  have h3:=he.a1; have h4:=he.b1
  rw [e]
  have:=(bJ w).length_eq
  exact zo148 h1 h2 h3 h4 this
theorem Climb.comm {ps:List Int} {a b m:Int} {w:List Int} (h:Climb ps a b w m):Climb ps b a w m:=by
  cases h with
  | same=>exact .same _
  | left h c=>exact .right h c
  | right h c=>exact .left h c
def qz:SpD:=fun ds q=>∃ c k,ds = [.int c,.int k] ∧ 0 ≤ k ∧ k ≤ 1000 ∧ ∀ n s,0 ≤ n → q (ai [n,s]) []
def sV:SpD:=fun ds q=>∃ c m most,ds = [ai [c,m],.int most] ∧ 0 ≤ c ∧ 0 < most ∧ most ≤ 23 ∧ ∀ ps rs c' m',Tree ps rs → (ps.length:Int) ≤ most → 0 ≤ c' → q (aL ps rs) [some (ai [c',m'])]
def wj:SpD:=fun ds q=>∃ ps rs a b,ds = [ai ps,.int a,.int b] ∧ Tree ps rs ∧ 0 ≤ a ∧ a ≤ ps.length ∧ 0 ≤ b ∧ b ≤ ps.length ∧ q (ai (b5 ps a b)) []
def wf:SpD:=fun ds q=>∃ c m ps rs n sizes worths,ds = [ai [c,m],.int n,ai sizes,ai worths] ∧ 0 ≤ c ∧ Tree ps rs ∧ n = ps.length ∧ 1 ≤ sizes.length ∧ sizes.length ≤ 100 ∧ (∀ s ∈ sizes,1 ≤ s ∧ s ≤ 1000000) ∧ 1 ≤ worths.length ∧ worths.length ≤ 100 ∧ (∀ s ∈ worths,1 ≤ s ∧ s ≤ 1000000000000) ∧
  ∀ a c' m',AskOk ps a → 0 ≤ c' → q (cT a) [some (ai [c',m'])]
end L2
namespace L2
open PySem PySem.Spec PyProof.Rows
section
variable {M:Model} {A:Around} {E:Value → Shared → Prop} {s:Shared}
end
section
variable {X:Cx} {pins:List (Addr × Obj)} {σ:St} {H H':Hp} {s s':Shared} {e:Addr} {cls:Value} {dx:Option Addr} {T:Option Addr}
end
section
variable {X:Cx} {x:Str} {p pos:Pos} {e:Expr} {es:List Expr} {t:TA} {k:Nat} {f:Addr} {fd:FuncData} {ps:List Str} {sp:Sp} {xk:XS}
end
section
variable {X:Cx} {pins:List (Addr × Obj)} {σ:St} {H:Hp} {s:Shared} {xk:XS}
variable {x:Str} {C:Addr} {bm:List Value} {e:Expr} {args:List Expr} {np cpos pos:Pos} {t:TA}
end
section
variable {X:Cx} {pins p:List (Addr × Obj)} {σ:St} {H:Hp} {s:Shared} {E:Value → Shared → Prop} {v:Value}
variable {e:Addr} {cls:Value} {dx T:Option Addr}
variable {x n:Str} {i:Nat} {C D0:Addr} {bm bmD:List Value} {ini iniD:Option Value} {b0:Stmt} {suite:List Stmt} {np npos:Pos} {ts:TS} {D:Ends} {t:Addr}
end
section
variable {X:Cx} {E:Value → Shared → Prop} {p:List (Addr × Obj)}
end
section
variable {X:Cx} {M:Md} {a b c e:Expr} {mt:MT} {pos pos':Pos} {st:Stmt} {rest:List Stmt} {m:MS} {m1 m2:MSX} {mex:MEX}
variable {mg:MG}
variable {es:List Expr} {ks:List AK} {mr:MA} {x:Str} {p':Pos} {ow:List Bool}
end
section
variable {X:Cx} {M:Md} {e:Expr} {es:List Expr} {ks:List AK} {mr:MA} {x:Str} {pos p':Pos} {ow:List Bool} {mu:List Bool} {k:Nat} {f:Addr} {fd:FuncData} {ps:List Str} {sd:SpX}
end
end L2
namespace L2
open PySem PySem.Spec PyProof.Rows PySem.W Builtin.ObjectAttr
section
variable {prog:Program} {w:World} {A:Around} {E:Value → Shared → Prop} {s:Shared} {K:PySem.W.Frag} {x D:Addr} {ox:Obj} {od:Option Obj} {name:Str} {bm:List Value} {ini:Option Value} {tk:Tok}
end
end L2
namespace L2
open PySem PySem.Spec PyProof.Rows
section
variable {X:Cx}
variable {ow:List Bool} {a:Expr} {ma:ME} {pos:Pos}
end
section
variable {K:PySem.W.Frag} {C a N:Addr} {dd nd:Option Addr} {nm qn:Str} {bs bm sub:List Value} {hd ab:Bool} {sn:List Str} {col:Option Bool} {k0 k1 k2 k3 k5 ini:Option Value} {no:Value} {es:Array DictEntry} {np:Nat} {nl:Array (Option Value)} {sl:Array (Option Value)} {oc:Value} {cd:ClassData}
end
section
variable {X:Cx}
variable {ow:List Bool} {a:Expr} {ma:ME} {pos:Pos}
end
section
variable {K:PySem.W.Frag} {t c:Value} {cs:List Value} {b:Bool}
end
section
variable {prog:Program} {w:World} {A:Around} {E:Value → Shared → Prop} {h:Heap} {g:Array GenState} {d:Drawn} {t:Nat} {os:OsState}
variable {nm q:Str} {C N:Addr} {bs bm:List Value} {hdct:Bool} {sn:List Str} {sub:List Value} {ab:Bool} {col:Option Bool} {dd:Option Addr} {k0 k1 k2 k3 k5:Option Value}
end
section
variable {prog:Program} {w:World} {A:Around} {E:Value → Shared → Prop} {h:Heap} {g:Array GenState} {d:Drawn} {t:Nat} {os:OsState}
variable {nm q:Str} {C N:Addr} {bs bm:List Value} {hdct:Bool} {sn:List Str} {sub:List Value} {ab:Bool} {col:Option Bool} {dd:Option Addr} {k0 k1 k2 k3 k5:Option Value}
end
end L2
namespace L2
open PySem PySem.Spec PyProof.Rows PySem.W Builtin.ObjectAttr Builtin
section
variable {prog:Program} {w:World} {A:Around} {E:Value → Shared → Prop} {s:Shared} {K:PySem.W.Frag} {x C:Addr} {ox:Obj} {od:Option Obj} {name:Str} {bm:List Value} {ini:Option Value} {v:Value}
end
end L2
namespace L2
open PySem PySem.Spec PyProof.Rows
section
variable {X:Cx} {pins:List (Addr × Obj)} {σ:St} {H:Hp} {s:Shared} {e C fI:Addr} {bm:List Value}
end
section
variable {prog:Program} {w:World} {A:Around} {E:Value → Shared → Prop} {s:Shared} {env:Env}
end
section
variable {X:Cx} {xk:XS} {x:Str} {C fI:Addr} {bm:List Value} {e:Expr} {args:List Expr} {np cpos pos:Pos} {t:TA} {k:Nat} {fd:FuncData} {ps ns:List Str}
end
section
variable {X:Cx} {M:Md} {e:Expr} {es:List Expr} {mr:MA} {x:Str} {pos:Pos} {k:Nat} {fd:FuncData} {ps ns:List Str}
end
section
variable {X:Cx} {es:List Expr} {c:St → Prop}
end
section
variable {X:Cx} {C B:Addr} {bm:List Value} {ini:Option Value} {x:Str} {a b:Expr} {np apos pos pos':Pos} {t:TA}
end
section
variable {X:Cx} {pins:List (Addr × Obj)} {σ:St} {H:Hp} {s:Shared} {h':Heap} {a:Addr} {oa od:HO}
end
section
variable {X:Cx} {C:Addr} {bm:List Value} {ini:Option Value} {f:Str} {o value:Expr} {pos pos':Pos} {ta tv:TE}
end
section
variable {X:Cx} {ow:List Bool} {a:Expr} {ma:ME} {pos:Pos} {f:Str}
end
section
variable {X:Cx}
variable {ow:List Bool} {e:Expr} {ma:ME}
end
section
variable {X:Cx} {M:Md} {ow:List Bool} {a e:Expr} {es:List Expr} {pos:Pos} {mex:MEX} {m1:MSX} {mg:MG}
variable {x:Str} {p':Pos} {ma:ME}
end
section
variable {C:Ctx} {ow:List Bool} {G:Hp} {ρ:DSt} {σ:St} {H:Hp} {pd:List (D × V)} {O:Own} {p:Addr} {xs:List V}
theorem RO.free (h:RO C ow G ρ σ H pd O) (hp:H p = none):G p = none ∧ O p = none ∧ C.H p = none:=by
  refine ⟨?_,?_,h.al p hp⟩
  · cases e:G p with
    | none=>rfl
    | some z=>rw [h.gh _ _ e] at hp; cases hp
  · cases e:O p with
    | none=>rfl
    | some l=>obtain ⟨_,⟨xs,q⟩,_⟩:=h.og p l e; rw [hp] at q; cases q
end
section
variable {X:Cx} {ow:List Bool} {a b e:Expr} {es:List Expr} {ma mb:ME} {mr:MA} {pos:Pos} {x:Str} {p':Pos}
end
section
variable {X:Cx} {M:Md} {i:Nat} {st:Stmt} {rest:List Stmt} {m1 m2:MFl} {me:MFe} {ms:MS} {pos pos':Pos}
variable {e b c:Expr} {ma mb:ME} {mt:MT}
end
section
variable {C:Ctx} {ow:List Bool} {i:Nat} {G:Hp} {ρ:DSt} {σ:St} {H:Hp} {p:Addr} {ds:List D}
end
section
variable {X:Cx} {M:Md} {i:Nat} {pos pos':Pos} {e c:Expr} {ma:ME} {mt:MT} {m1 m2:MFl}
end
section
variable {X:Cx} {M:Md} {a b e:Expr} {ma mb:ME} {pos:Pos}
end
section
variable {X:Cx} {M:Md} {a b:Expr} {ma mb:ME} {pos:Pos}
end
section
variable {X:Cx} {pos p1 p2 q1 q2:Pos} {n1 n2:Nat} {k1 k2 x y:Str} {i j:Nat} {ow:List Bool}
end
section
variable {X:Cx} {ow:List Bool} {a b e:Expr} {ma mb:ME} {pos p2:Pos} {lo hi:Option Expr} {ml mh:MO}
end
section
variable {X:Cx} {M:Md} {i:Nat} {st:Stmt} {m:MFl}
end
mutual
def pln:D → Bool
  | .tup ds=>plns ds
  | .lst ds=>plns ds
  | .scr _ _=>false
  | .ext _=>false
  | _=>true
def plns:List D → Bool
  | []=>true
  | d :: ds=>pln d && plns ds
end
theorem nV {d:D} (h:pln d = true):d.isS = false:=by
  cases d <;> first | rfl | (rw [pln] at h; cases h)
theorem dS {d:D} {ds:List D}:plns (d :: ds) = true ↔ pln d = true ∧ plns ds = true:=by rw [plns,Bool.and_eq_true]
theorem kA:∀ {ds:List D},(∀ d ∈ ds,pln d = true) → plns ds = true
  | [],_=>rfl
  | d :: ds,h=>dS.mpr ⟨h d (by simp),kA fun x hx=>h x (by simp [hx])⟩
theorem kX:∀ {ds:List D} {d:D},plns ds = true → d ∈ ds → pln d = true
  | x :: ds,d,h,e=>by
    rcases List.mem_cons.mp e with rfl | e
    · exact (dS.mp h).1
    · exact kX (dS.mp h).2 e
def fE:Nat → D → Bool
  | _,.int _=>true
  | _,.bl _=>true
  | _,.non=>true
  | _,.str x=>(PyData.str x).canLay0
  | n + 1,.tup ds=>ds.all (fE n)
  | n + 1,.lst ds=>ds.all (fE n)
  | _,_=>false
theorem h_ {n:Nat} (ih:∀ d,fE n d = true → (toP d).canLay0 = true ∧ (toP d).depth ≤ n + 1):∀ ds:List D,ds.all (fE n) = true → PyData.canLayAll0 (toPs ds) = true ∧ PyData.depthAll (toPs ds) ≤ n + 1
  | [],_=>by rw [toPs]; simp [PyData.canLayAll0,PyData.depthAll]
  | d :: ds,h=>by
    rw [List.all_cons,Bool.and_eq_true] at h
    have h1:=ih d h.1
    have h2:=h_ ih ds h.2
    rw [toPs]
    simp only [PyData.canLayAll0,PyData.depthAll,h1.1,h2.1,Bool.and_self,true_and]
    (first|lia|omega)
theorem jW:∀ (n:Nat) (d:D),fE n d = true → (toP d).canLay0 = true ∧ (toP d).depth ≤ n + 1
  | n,.int _,_=>by rw [toP]; simp [PyData.canLay0,PyData.depth]
  | n,.bl _,_=>by rw [toP]; simp [PyData.canLay0,PyData.depth]
  | n,.non,_=>by rw [toP]; simp [PyData.canLay0,PyData.depth]
  | n,.str x,h=>by rw [toP]; exact ⟨by cases n <;> exact h,by simp [PyData.depth]⟩
  | n + 1,.tup ds,h=>by
    have:=h_ (jW n) ds (by simpa [fE] using h)
    rw [toP]; simp only [PyData.canLay0,PyData.depth,this.1,true_and]; (first|lia|omega)
  | n + 1,.lst ds,h=>by
    have:=h_ (jW n) ds (by simpa [fE] using h)
    rw [toP]; simp only [PyData.canLay0,PyData.depth,this.1,true_and]; (first|lia|omega)
  | 0,.tup _,h=>by simp [fE] at h
  | 0,.lst _,h=>by simp [fE] at h
  | n,.dct,h=>by cases n <;> simp [fE] at h
  | n,.dic _ _,h=>by cases n <;> simp [fE] at h
  | n,.scr _ _,h=>by cases n <;> simp [fE] at h
  | n,.ext _,h=>by cases n <;> simp [fE] at h
theorem qI {n:Nat} {d:D} (h:fE n d = true) (hn:n ≤ 60):okD d = true:=by
  have:=jW n d h
  unfold okD SeqAt.shaped
  rw [this.1,Bool.true_and]
  exact decide_eq_true (by (first|lia|omega))
theorem fT {x:Str} (h:(PyData.str x).canLay0 = true):okD (.str x) = true:=qI (n:=0) h (by decide)
theorem gI (a b:Str):eqD (.str a) (.str b) = (a == b):=by unfold eqD; rw [toP,toP,PyData.eqv]
theorem jm {lo hi:Int} {d:D} (h:btw lo hi d = true):∃ i,d = .int i ∧ lo ≤ i ∧ i ≤ hi:=by
  cases d with
  | int i=>simp only [btw,Bool.and_eq_true,decide_eq_true_eq] at h; exact ⟨i,rfl,h.1,h.2⟩
  | _=>cases h
theorem i8 {xs:List D} {k:Int} (h0 : 0 ≤ k):gr xs none (some k) = xs.take k.toNat:=by
  have ek:k = ((k.toNat:Nat):Int):=by exact rV h0
  unfold gr
  rw [HT.sIx_none,ek,HT.sIx_nat,List.drop_zero,Nat.sub_zero,Int.toNat_natCast]
  by_cases h:k.toNat ≤ xs.length
  · rw [show min k.toNat xs.length = k.toNat by (first|lia|omega)]
  · rw [show min k.toNat xs.length = xs.length by (first|lia|omega),List.take_length,List.take_of_length_le (by exact uD h)]
theorem oM {xs:List D} {k:Int} (h0 : 0 ≤ k):gr xs (some k) none = xs.drop k.toNat:=by
  have ek:k = ((k.toNat:Nat):Int):=by exact rV h0
  unfold gr
  rw [HT.sIx_none,ek,HT.sIx_nat,Int.toNat_natCast]
  by_cases h:k.toNat ≤ xs.length
  · rw [show min k.toNat xs.length = k.toNat by (first|lia|omega),List.take_of_length_le (by simp)]
  · rw [show min k.toNat xs.length = xs.length by (first|lia|omega),List.drop_length,List.drop_of_length_le (by exact uD h)]; simp
section
variable {X:Cx}
end
end L2
namespace L2
open PySem
end L2
namespace L2
open PySem PySem.Spec PyProof.Rows
section
variable {X:Cx}
end
section
variable {X:Cx} {M:Md} {e:Expr} {ma:ME} {pos:Pos}
end
section
variable {X:Cx} {M:Md} {i:Nat} {st:Stmt} {rest:List Stmt} {m1 m2:MFl} {me:MFe} {pos pos':Pos} {e:Expr} {ma:ME}
end
section
variable {X:Cx} {M:Md} {elt tg iter:Expr} {ifs:List Expr} {pos:Pos} {mi:MA} {mg:MG} {mt:MT} {me:ME} {scope:Scope} {cl:List (Str × Addr)} {rest:List Stmt} {mf:MFe}
end
section
variable {X:Cx} {ow:List Bool} {e:Expr} {ma:ME} {pos p2:Pos} {lo hi:Option Expr} {ml mh:MO}
end
end L2
namespace L2
open PySem
end L2
namespace L2
open PySem PySem.Spec PyProof.Rows
section
variable {X:Cx} {pins p:List (Addr × Obj)} {σ:St} {H:Hp} {s:Shared} {E:Value → Shared → Prop} {v:Value} {e:Addr} {cls:Value} {dx T:Option Addr}
variable {x:Str} {C D0:Addr} {bm bmD:List Value} {ini iniD:Option Value} {b0:Stmt} {suite:List Stmt} {np npos:Pos} {ts:TS} {D:Ends} {t:Addr}
end
section
variable {X:Cx} {ow:List Bool} {a b:Expr} {mex:MEX} {mb:ME} {pos:Pos}
end
end L2
namespace L2
open PySem
end L2
namespace L2
open PySem PySem.Spec PyProof.Rows
section
variable {X:Cx} {pos p1 q1:Pos} {n1:Nat} {k1:Int} {x:Str} {i:Nat} {ow:List Bool}
end
section
variable {X:Cx} {ow:List Bool} {es:List Expr} {mr:MA} {pos:Pos}
end
end L2
namespace L2
open PySem
end L2
namespace L2
open PySem PySem.Spec PyProof.Rows
section
variable {X:Cx}
end
section
variable {X:Cx} {M:Md} {e e':Expr} {mr:MA} {pos:Pos}
end
end L2
namespace L2
open PySem
def jR (as:List Ask) (k:Int):Ask:=as.getD k.toNat oB
end L2
namespace L2
open PySem PySem.Spec PyProof.Rows
section
variable {X:Cx}
end
end L2
namespace L2
open PySem
end L2
namespace L2
open PySem PySem.Spec PyProof.Rows
section
variable {X:Cx}
variable {ow:List Bool} {e e2:Expr} {ma mb:ME}
end
end L2
namespace L2
open PySem
end L2
namespace L2
open PySem PySem.Spec PyProof.Rows
section
variable {X:Cx}
end
end L2
namespace L2
open PySem
end L2
namespace L2
open PySem PySem.Spec PyProof.Rows
section
variable {κ:Type} [DecidableEq κ]
def fc (kvs:List (κ × V)) (k : κ):Option V:=(kvs.find? fun kv=>decide (kv.1 = k)).map (·.2)
def dN (kvs:List (κ × V)) (k : κ) (v:V):List (κ × V) :=
  if (kvs.any fun kv=>decide (kv.1 = k)) = true then kvs.map (fun kv=>if kv.1 = k then (kv.1,v) else kv) else kvs ++ [(k,v)]
theorem fJ {p : κ × V} {r:List (κ × V)} {k : κ} (e:p.1 = k):fc (p :: r) k = some p.2:=by simp [fc,List.find?_cons,e]
theorem fV {p : κ × V} {r:List (κ × V)} {k : κ} (e : ¬ p.1 = k):fc (p :: r) k = fc r k:=by simp [fc,List.find?_cons,e]
theorem lf (k : κ):∀ kvs:List (κ × V),(kvs.any fun kv=>decide (kv.1 = k)) = (fc kvs k).isSome
  | []=>rfl
  | p :: r=>by
    rw [List.any_cons]
    by_cases e:p.1 = k
    · simp only [fJ e,decide_eq_true e,Bool.true_or,Option.isSome_some]
    · rw [fV e,decide_eq_false e,Bool.false_or]; exact lf k r
theorem gA (kvs:List (κ × V)) (k : κ) (v:V):(dN kvs k v).length ≤ kvs.length + 1:=by
  unfold dN
  split
  · rw [List.length_map]; exact zo372
  · rw [List.length_append,List.length_cons,List.length_nil]; exact zo363
theorem gR.isSome_eq {o:Option V} {u:Option Value} (r:gR o u):o.isSome = u.isSome:=by
  cases o with
  | none=>cases u with
    | none=>rfl
    | some _=>exact (show False from r).elim
  | some _=>cases u with
    | none=>exact (show False from r).elim
    | some _=>rfl
theorem KV.val {kvs:List (κ × V)} {vs:List (κ × Value)} (r:KV kvs vs) (k : κ):gR (fc kvs k) (valueAt vs k):=by
  unfold KV at r
  induction r with
  | nil=>exact True.intro
  | @cons p q ps qs h t ih =>
    obtain ⟨h1,h2⟩:=h
    by_cases e:p.1 = k
    · have e':q.1 = k:=h1.symm.trans e
      have b:valueAt (q :: qs) k = some q.2:=by simp [valueAt,List.find?_cons,e']
      rw [fJ e,b]; exact h2
    · have e' : ¬ q.1 = k:=fun z=>e (h1.trans z)
      have b:valueAt (q :: qs) k = valueAt qs k:=by simp [valueAt,List.find?_cons,e']
      rw [fV e,b]; exact ih
theorem KV.any {kvs:List (κ × V)} {vs:List (κ × Value)} (r:KV kvs vs) (k : κ):(kvs.any fun kv=>decide (kv.1 = k)) = vs.any fun kv=>decide (kv.1 = k):=by
  unfold KV at r
  induction r with
  | nil=>rfl
  | cons h t ih=>rw [List.any_cons,List.any_cons,ih,h.1]
theorem KV.repl {kvs:List (κ × V)} {vs:List (κ × Value)} (r:KV kvs vs) (k : κ) {y:V} {u:Value} (ry:a7 y u) :
    KV (kvs.map fun kv=>if kv.1 = k then (kv.1,y) else kv) (vs.map fun kv=>if kv.1 = k then (kv.1,u) else kv):=by
  unfold KV at r ⊢
  induction r with
  | nil=>exact .nil
  | @cons p q ps qs h t ih =>
    rw [List.map_cons,List.map_cons]
    refine .cons ?_ ih
    obtain ⟨h1,h2⟩:=h
    by_cases e:p.1 = k
    · rw [if_pos e,if_pos (h1.symm.trans e)]; exact ⟨h1,ry⟩
    · rw [if_neg e,if_neg (fun z=>e (h1.trans z))]; exact ⟨h1,h2⟩
theorem KV.put {kvs:List (κ × V)} {vs:List (κ × Value)} (r:KV kvs vs) (k : κ) {y:V} {u:Value} (ry:a7 y u):KV (dN kvs k y) (stored vs k u):=by
  unfold dN stored
  rw [r.any k]
  by_cases e:(vs.any fun kv=>decide (kv.1 = k)) = true
  · rw [if_pos e,if_pos e]; exact r.repl k ry
  · rw [if_neg e,if_neg e]; exact Paired.snoc r ⟨rfl,ry⟩
theorem KV.length {kvs:List (κ × V)} {vs:List (κ × Value)} (r:KV kvs vs):kvs.length = vs.length:=Paired.length r
end
theorem lM {P:Program} {w:World} {k:Key} {u:Value} (r:a7 (kV k) u):(bL P w).is k u = true:=by
  cases k with
  | inl i=>obtain ⟨t,e⟩:=(show ∃ t,u = Value.int i t from r); subst e; exact kM P w i t
  | inr x=>obtain ⟨t,e⟩:=(show ∃ t,u = Value.str x t from r); subst e; exact lc P w x t
theorem jF {P:Program} {w:World}:∀ {ks:List Key} {us:List Value},aZ (ks.map kV) us → ItemsAre (bL P w) ks us
  | [],_,r=>by rw [List.map_nil] at r; cases r; exact .nil
  | k :: ks,_,r=>by
    rw [List.map_cons] at r
    cases r with
    | cons h t=>exact .cons (lM h) (jF t)
abbrev KT (H:Hp):List (List Key × V) → List (List Key × Addr × Value) → Prop:=Paired fun p q=>p.1 = q.1 ∧ H q.2.1 = some (.tup (p.1.map kV)) ∧ a7 p.2 q.2.2
theorem KT.val {H:Hp} {kvs:List (List Key × V)} {xs:List (List Key × Addr × Value)} (r:KT H kvs xs) (k:List Key):gR (fc kvs k) ((atKey xs k).map (·.2)):=by
  induction r with
  | nil=>exact True.intro
  | @cons p q ps qs h t ih =>
    obtain ⟨h1,_,h2⟩:=h
    by_cases e:p.1 = k
    · have e':q.1 = k:=h1.symm.trans e
      have b:atKey (q :: qs) k = some q.2:=by simp [atKey,List.find?_cons,e']
      rw [fJ e,b]; exact h2
    · have e' : ¬ q.1 = k:=fun z=>e (h1.trans z)
      have b:atKey (q :: qs) k = atKey qs k:=by simp [atKey,List.find?_cons,e']
      rw [fV e,b]; exact ih
theorem KT.repl {H:Hp} {kvs:List (List Key × V)} {xs:List (List Key × Addr × Value)} (r:KT H kvs xs) (k:List Key) {y:V} {u:Value} (ry:a7 y u) :
    KT H (kvs.map fun kv=>if kv.1 = k then (kv.1,y) else kv) (xs.map (putAt k u)):=by
  induction r with
  | nil=>exact .nil
  | @cons p q ps qs h t ih =>
    rw [List.map_cons,List.map_cons]
    refine .cons ?_ ih
    obtain ⟨h1,h2,h3⟩:=h
    unfold putAt
    by_cases e:p.1 = k
    · rw [if_pos e,if_pos (h1.symm.trans e)]; exact ⟨h1,h2,ry⟩
    · rw [if_neg e,if_neg (fun z=>e (h1.trans z))]; exact ⟨h1,h2,h3⟩
theorem KT.put {H:Hp} {kvs:List (List Key × V)} {xs:List (List Key × Addr × Value)} (r:KT H kvs xs) (k:List Key) {b:Addr} {y:V} {u:Value} (hb:H b = some (.tup (k.map kV))) (ry:a7 y u) :
    KT H (dN kvs k y) (storedH xs k b u):=by
  have e:(kvs.any fun kv=>decide (kv.1 = k)) = (atKey xs k).isSome:=by
    rw [lf,(r.val k).isSome_eq,Option.isSome_map]
  unfold dN storedH
  rw [e]
  by_cases q:(atKey xs k).isSome = true
  · rw [if_pos q,if_pos q]; exact r.repl k ry
  · rw [if_neg q,if_neg q]; exact Paired.snoc r ⟨rfl,hb,ry⟩
theorem KT.keeps {H H':Hp} {kvs:List (List Key × V)} {xs:List (List Key × Addr × Value)} (r:KT H kvs xs) (ht:∀ b ys,H b = some (.tup ys) → H' b = some (.tup ys)):KT H' kvs xs :=
  Paired.mapP r fun _ _ z=>⟨z.1,ht _ _ z.2.1,z.2.2⟩
section
variable {P:Program} {w:World} {H:Hp} {h:Heap} {a:Addr}
theorem uf {u:HO} (ok:HOk P w H h) (e:Rd H a u):bd P w H h a u:=e.ok ok
theorem lA {kvs:List (Key × V)} (ok:HOk P w H h) (e:Rd H a (.dK kvs)):kvs.length ≤ sizeLine ∧ (a == sysModules) = false ∧ ∃ vs,KV kvs vs ∧ h.DictOf (bL P w) a vs :=
  show bd P w H h a (.dK kvs) from uf ok e
theorem dk_of {kvs:List (Key × V)} (ok:HOk P w H h) (e:H a = some (.dK kvs)):kvs.length ≤ sizeLine ∧ (a == sysModules) = false ∧ ∃ vs,KV kvs vs ∧ h.DictOf (bL P w) a vs:=lA ok (.inl e)
theorem hX {ks:List Key} (ok:HOk P w H h) (e:H a = some (.tup (ks.map kV))):(tupleKind (bL P w)).is h ks a:=by
  obtain ⟨_,its,r,o,h1,h2,n,h3⟩:=(show bd P w H h a (.tup (ks.map kV)) from ok a _ e)
  exact ⟨o,its.toArray,n,h1,h2,h3,by simpa using jF r⟩
theorem kQ {kvs:List (List Key × V)} (ok:HOk P w H h) (e:Rd H a (.dT kvs)):kvs.length ≤ sizeLine ∧ (a == sysModules) = false ∧
    ∃ xs,KT H kvs xs ∧ h.DictOfH (tupleKind (bL P w)) a xs:=by
  obtain ⟨z,y,xs,r,o,es,ep,h1,h2,h3,h4,h5⟩:=(show bd P w H h a (.dT kvs) from uf ok e)
  refine ⟨z,y,xs,r,o,es,ep,h1,h2,h3,h4,fun x hx=>?_,h5⟩
  have all:∀ {l:List (List Key × V)} {m:List (List Key × Addr × Value)},KT H l m → ∀ x ∈ m,(tupleKind (bL P w)).is h x.1 x.2.1:=by
    intro l m q
    induction q with
    | nil=>intro x hx; exact nomatch hx
    | @cons p q ps qs hq t ih =>
      intro x hx
      rcases List.mem_cons.mp hx with e | hx
      · subst e
        exact hX ok (by rw [← hq.1]; exact hq.2.1)
      · exact ih x hx
  exact all r x hx
theorem dt_of {kvs:List (List Key × V)} (ok:HOk P w H h) (e:H a = some (.dT kvs)):kvs.length ≤ sizeLine ∧ (a == sysModules) = false ∧
    ∃ xs,KT H kvs xs ∧ h.DictOfH (tupleKind (bL P w)) a xs:=kQ ok (.inl e)
end
def iG (H:Hp) (a:Addr) (y:V) (r:Option V):Prop :=
  (∃ kvs k,Rd H a (.dK kvs) ∧ y = kV k ∧ r = fc kvs k) ∨ ∃ kvs k b,Rd H a (.dT kvs) ∧ y = .ref b ∧ H b = some (.tup (k.map kV)) ∧ r = fc kvs k
def q9 (H:Hp) (a:Addr) (y v:V) (H':Hp):Prop :=
  (∃ kvs k,H a = some (.dK kvs) ∧ y = kV k ∧ kvs.length < sizeLine ∧ H' = upd H a (.dK (dN kvs k v))) ∨
  ∃ kvs k b,H a = some (.dT kvs) ∧ y = .ref b ∧ H b = some (.tup (k.map kV)) ∧ kvs.length < sizeLine ∧ H' = upd H a (.dT (dN kvs k v))
theorem iG.k {H:Hp} {a:Addr} {kvs:List (Key × V)} {k:Key} (e:H a = some (.dK kvs)):iG H a (kV k) (fc kvs k):=.inl ⟨kvs,k,.inl e,rfl,rfl⟩
theorem q9.k {H:Hp} {a:Addr} {kvs:List (Key × V)} {k:Key} {v:V} (e:H a = some (.dK kvs)) (hl:kvs.length < sizeLine):q9 H a (kV k) v (upd H a (.dK (dN kvs k v))):=.inl ⟨kvs,k,e,rfl,hl,rfl⟩
section
variable {X:Cx} {pins:List (Addr × Obj)} {σ:St} {H:Hp} {s:Shared} {a:Addr} {y v:V} {u r:Value} {o:Option V} {A:Around} {E:Value → Shared → Prop}
theorem oC {Q:Value → Shared → Prop} (hu:A.units + 1 < cLine) (I:Inv X pins σ H s) (g:iG H a y (some v)) (ry:a7 y u) (h:∀ w' s',Inv X pins σ H s' → a7 v w' → Q w' s') :
    wpAny (model X.prog X.w) A (getItem (.ref a) u) Q E s:=by
  rcases g with ⟨kvs,k,e,ey,l⟩ | ⟨kvs,k,b,e,ey,eb,l⟩
  · subst ey
    obtain ⟨z,hd,vs,rel,dd⟩:=lA I.hok e
    obtain ⟨w',hw,rw'⟩:=gR.some_of (v:=v) (o:=valueAt vs k) (by rw [l]; exact rel.val k)
    exact wpAny_getItem_of (lM ry) dd.mapOf hw (h w' _ (I.tok _) rw')
  · subst ey
    cases (show u = Value.ref b from ry)
    obtain ⟨z,hd,xs,rel,dd⟩:=kQ I.hok e
    obtain ⟨w',hw,rw'⟩:=gR.some_of (v:=v) (o:=(atKey xs k).map (·.2)) (by rw [l]; exact rel.val k)
    obtain ⟨p,hp,hp2⟩:=Option.map_eq_some_iff.mp hw
    refine wpAny_getItem_heap (tupleKind_room_in1 hu) (hX I.hok eb) dd hp ?_
    rw [hp2]
    exact h w' _ (I.tok _) rw'
theorem d_in {Q:Value → Shared → Prop} (hu:A.units + 1 < cLine) (I:Inv X pins σ H s) (g:iG H a y o) (ry:a7 y u) (h:∀ s',Inv X pins σ H s' → Q (.bool o.isSome) s') :
    wpAny (model X.prog X.w) A (compareOp .In u (.ref a)) Q E s:=by
  rcases g with ⟨kvs,k,e,ey,l⟩ | ⟨kvs,k,b,e,ey,eb,l⟩
  · subst ey
    obtain ⟨z,hd,vs,rel,dd⟩:=lA I.hok e
    refine wpAny_in_of (lM ry) hd dd.mapOf ?_
    rw [← (rel.val k).isSome_eq,← l]
    exact h _ (I.tok _)
  · subst ey
    cases (show u = Value.ref b from ry)
    obtain ⟨z,hd,xs,rel,dd⟩:=kQ I.hok e
    refine wpAny_in_heap (tupleKind_room_in1 hu) (hX I.hok eb) hd dd ?_
    have q:=(rel.val k).isSome_eq
    rw [Option.isSome_map] at q
    rw [← q,← l]
    exact h _ (I.tok _)
theorem sK {Q:Value → Shared → Prop} (hu:A.units + 1 < cLine) (I:Inv X pins σ H s) (g:iG H a y o) (ry:a7 y u) (h:∀ s',Inv X pins σ H s' → Q (.bool (!o.isSome)) s') :
    wpAny (model X.prog X.w) A (compareOp .NotIn u (.ref a)) Q E s:=by
  rcases g with ⟨kvs,k,e,ey,l⟩ | ⟨kvs,k,b,e,ey,eb,l⟩
  · subst ey
    obtain ⟨z,hd,vs,rel,dd⟩:=lA I.hok e
    refine wpAny_notIn_of (lM ry) hd dd.mapOf ?_
    rw [← (rel.val k).isSome_eq,← l]
    exact h _ (I.tok _)
  · subst ey
    cases (show u = Value.ref b from ry)
    obtain ⟨z,hd,xs,rel,dd⟩:=kQ I.hok e
    refine wpAny_notIn_heap (tupleKind_room_in1 hu) (hX I.hok eb) hd dd ?_
    have q:=(rel.val k).isSome_eq
    rw [Option.isSome_map] at q
    rw [← q,← l]
    exact h _ (I.tok _)
theorem nB {h':Heap} {t':Nat} {ob:HO} (I:Inv X pins σ H s) (mu:Mut (H a)) (hs:Heap.SameBut a s.heap h') (he:∃ q,h'.get? a = some q) (new:bd X.prog X.w (upd H a ob) h' a ob) :
    Inv X pins σ (upd H a ob) { s with heap:=h',toks:=t' } :=
  I.write (x:=a) (e:=a) mu (.inl rfl) (fun b q hb z=>(hs.2 b hb).trans z) he new
theorem xc {P:Program} {w:World} {H':Hp} {h':Heap} {kvs:List (Key × V)} {vs:List (Key × Value)} (z:kvs.length ≤ sizeLine) (hd:(a == sysModules) = false) (rel:KV kvs vs) (dd:h'.DictOf (bL P w) a vs) :
    bd P w H' h' a (.dK kvs):=⟨z,hd,vs,rel,dd⟩
theorem oo {H':Hp} {Q:Unit → Shared → Prop} (hu:A.units + 1 < cLine) (I:Inv X pins σ H s) (g:q9 H a y v H') (ry:a7 y u) (rv:a7 v r) (h:∀ s',Inv X pins σ H' s' → Q () s') :
    wpAny (model X.prog X.w) A (setItem (.ref a) u r) Q E s:=by
  rcases g with ⟨kvs,k,e,ey,l,eH⟩ | ⟨kvs,k,b,e,ey,eb,l,eH⟩
  · subst ey eH
    obtain ⟨z,hd,vs,rel,dd⟩:=dk_of I.hok e
    have hz:vs.length ≤ sizeLine:=by rw [← rel.length]; exact z
    have hl:(dN kvs k v).length ≤ sizeLine:=by have:=gA kvs k v; exact zo95 l this
    refine wpAny_setItem_pairs (hsz:=hz) (lM ry) dd fun h' dd' hs=>h _ ?_
    have he:∃ q,h'.get? a = some q:=let ⟨q,_,_,hq,_⟩:=dd'; ⟨q,hq⟩
    exact nB I (by rw [e]; exact True.intro) hs he (xc hl hd (rel.put k rv) dd')
  · subst ey eH
    cases (show u = Value.ref b from ry)
    obtain ⟨z,hd,xs,rel,dd⟩:=dt_of I.hok e
    have hz:xs.length ≤ sizeLine:=by rw [← Paired.length rel]; exact z
    have hl:(dN kvs k v).length ≤ sizeLine:=by have:=gA kvs k v; exact zo95 l this
    refine wpAny_setItem_heap (hsz:=hz) (tupleKind_room_in1 hu) (hX I.hok eb) dd fun h' dd' hs=>h _ ?_
    obtain ⟨q,es,ep,hq,h2,h3,h4,_,h5⟩:=dd'
    refine nB I (by rw [e]; exact True.intro) hs ⟨q,hq⟩ ⟨hl,hd,_,(rel.put k eb rv).keeps fun c ys ec=>?_,q,es,ep,hq,h2,h3,h4,h5⟩
    rw [am (ne_of ec e (fun z=>nomatch z))]
    exact ec
end
section
variable {X:Cx} {pins:List (Addr × Obj)} {σ:St} {H:Hp} {s:Shared} {a:Addr} {kvs:List (Key × V)} {k:Key} {u:Value} {A:Around} {E:Value → Shared → Prop}
end
def NoSl (i:Expr):Prop:=∀ ov iv,subscripted i false ov iv = operate [ov,iv] (getItem ov iv)
theorem sP {prog:Program} {w:World} {A:Around} {E:Value → Shared → Prop} {s:Shared} {env:Env} {value slice:Expr} {pos:Pos} {T id:String} {Q:Value → Shared → Prop}
    (hl:typeLookup (.type T) "__getitem__" = pure (some (.builtin id))) (hs:NoSl slice)
    (h:wpAny (model prog w) A (eval value env) (fun o s₁=>wpAny (model prog w) A (eval slice env) (fun i s₂=>s₂.TypeIs o T ∧ wpAny (model prog w) A (getItem o i) Q E s₂) E s₁) E s) :
    wpAny (model prog w) A (eval (.Subscript value slice pos) env) Q E s:=by
  refine Subscript_ (wpAny_mono h (fun o s₁ h₁=>wpAny_mono h₁ (fun i s₂ h₂=>?_) fun _ _ x=>x) fun _ _ x=>x)
  obtain ⟨hT,h₂⟩:=h₂
  unfold subscriptTail
  refine wpAny_bind ?_
  rw [getitemInPython_of_ne hT.not_modules]
  refine wpAny_bind (wpAny_specialOf hT hl ?_)
  have fin:wpAny (model prog w) A (subscripted slice false o i) (fun r s₃=>wpAny (model prog w) A (letTemporaryGo value o r >>= fun _=>pure r) Q E s₃) E s₂:=by
    rw [hs o i]
    exact wpAny_operating (wpAny_mono h₂ (fun r s₃ h₃=>wpAny_bind (wpAny_letTemporaryGo (wpAny_pure h₃))) fun _ _ x=>x)
  first
    | exact wpAny_pure (wpAny_bind fin)
    | exact wpAny_bind (wpAny_pure (wpAny_bind fin))
    | exact wpAny_bind fin
theorem lC {X:Cx} {pins:List (Addr × Obj)} {σ:St} {H:Hp} {s:Shared} {a:Addr} {y:V} {o:Option V} (I:Inv X pins σ H s) (g:iG H a y o):s.TypeIs (.ref a) "dict":=by
  rcases g with ⟨kvs,k,e,_,_⟩ | ⟨kvs,k,b,e,_,_,_⟩
  · obtain ⟨_,_,vs,_,dd⟩:=lA I.hok e
    exact dd.typeIs
  · obtain ⟨_,_,xs,_,dd⟩:=kQ I.hok e
    exact dd.typeIs
def tDGet (td ty:TE):TE:=fun σ H Q=>td σ H fun x H1=>ty σ H1 fun y H2=>∃ a v,x = .ref a ∧ iG H2 a y (some v) ∧ Q v H2
def sDPut (td ty tv:TE):TS:=fun D σ H=>tv σ H fun v H1=>td σ H1 fun x H2=>ty σ H2 fun y H3=>∃ a H4,x = .ref a ∧ q9 H3 a y v H4 ∧ D.nx σ H4
section
variable {X:Cx} {o i e value:Expr} {pos pos' tpos:Pos} {td ty tv:TE}
theorem sQ (hu:X.A.units + 1 < cLine) (ho:PE X o td) (hi:PE X i ty) (hs:NoSl i):PE X (.Subscript o i pos) (tDGet td ty):=by
  (try refine ⟨?_⟩); intro pins s σ H Q I h
  refine sP PySem.F.slot_dict_getitem.lookup hs (thn (ho pins s σ H _ I h) fun u s1 ⟨x,H1,I1,rx,q1⟩=>thn (hi pins s1 σ H1 _ I1 q1) fun iv s2 ⟨y,H2,I2,ry,a,v,ex,g,q2⟩=>?_)
  subst ex
  obtain rfl:u = Value.ref a:=rx
  exact ⟨lC I2 g,oC hu I2 g ry fun w' s3 I3 rw'=>⟨v,H2,I3,rw',q2⟩⟩
theorem tH (hu:X.A.units + 1 < cLine) (ho:PE X o td) (hi:PE X i ty) (hv:PE X value tv) (hs:swapsWith value (some (.Subscript o i pos')) pos.line X.env = pure false) :
    PS X (.Assign [.Subscript o i pos'] value pos) (sDPut td ty tv):=by
  (try refine ⟨?_⟩); intro pins s σ H D I h
  refine wpAny_Assign_Subscript (thn (hv pins s σ H _ I h) fun r s1 ⟨v,H1,I1,rv,q1⟩=>thn (ho pins s1 σ H1 _ I1 q1) fun u s2 ⟨x,H2,I2,rx,q2⟩=>thn (hi pins s2 σ H2 _ I2 q2) fun iv s3 ⟨y,H3,I3,ry,a,H4,ex,g,q3⟩=>?_) hs
  subst ex
  obtain rfl:u = Value.ref a:=rx
  exact oo hu I3 g ry rv fun s4 I4=>⟨σ,H4,I4,q3⟩
end
section
variable {X:Cx} {pos:Pos}
end
section
variable {X:Cx} {pins:List (Addr × Obj)} {σ:St} {H:Hp} {s:Shared} {a:Addr} {y d:V} {u r:Value} {o:Option V} {A:Around} {E:Value → Shared → Prop}
end
section
variable {X:Cx} {o e f:Expr} {apos cpos:Pos} {td ty tx:TE}
end
section
variable {X:Cx} {pins:List (Addr × Obj)} {σ:St} {H:Hp} {s:Shared} {a:Addr} {kvs:List (Key × V)} {A:Around} {E:Value → Shared → Prop}
end
section
variable {X:Cx} {pins:List (Addr × Obj)} {σ:St} {H:Hp} {s:Shared} {a:Addr} {y:V} {u:Value} {A:Around} {E:Value → Shared → Prop}
end
def rX:Key → D
  | .inl i=>.int i
  | .inr x=>.str x
theorem gM {G:Hp} {k:Key} {v:V} (h:Rep G (rX k) v):v = kV k:=by cases k <;> (unfold rX at h; rw [Rep] at h; exact h)
def b7:List Key → List D → Key → Option D
  | j :: ks,d :: ds,k=>if j = k then some d else b7 ks ds k
  | _,_,_=>none
def aN:List Key → Key → Bool
  | [],_=>false
  | j :: ks,k=>if j = k then true else aN ks k
def br (ks:List Key) (k:Key):List Key:=if aN ks k = true then ks else ks ++ [k]
def putAt {α:Type} (ks:List Key) (xs:List α) (k:Key) (x : α):List α:=if aN ks k = true then List.zipWith (fun j y=>if j = k then x else y) ks xs else xs ++ [x]
theorem lR {G:Hp} {k:Key}:∀ {ks:List Key} {ds:List D} {xs:List V},ks.length = ds.length → Reps G ds xs → (b7 ks ds k = none ∧ fc (ks.zip xs) k = none) ∨ ∃ d v,b7 ks ds k = some d ∧ fc (ks.zip xs) k = some v ∧ Rep G d v
  | [],[],xs,_,h=>.inl ⟨rfl,rfl⟩
  | j :: ks,d :: ds,xs,hl,h=>by
    rw [Reps] at h
    obtain ⟨v,vs,rfl,h1,h2⟩:=h
    rw [List.zip_cons_cons]
    by_cases e:j = k
    · exact .inr ⟨d,v,by rw [b7,if_pos e],by rw [fJ (p:=(j,v)) e],h1⟩
    · rw [b7,if_neg e,fV (p:=(j,v)) e]
      exact lR (by simpa using hl) h2
  | [],_ :: _,_,hl,_=>by simp at hl
  | _ :: _,[],_,hl,_=>by simp at hl
theorem e6:∀ {ks:List Key} {ds:List D} {k:Key},ks.length = ds.length → (b7 ks ds k).isSome = aN ks k
  | [],[],k,_=>rfl
  | j :: ks,d :: ds,k,hl=>by
    rw [b7,aN]
    by_cases e:j = k
    · rw [if_pos e,if_pos e]; rfl
    · rw [if_neg e,if_neg e,e6 (by simpa using hl)]
  | [],_ :: _,_,hl=>by simp at hl
  | _ :: _,[],_,hl=>by simp at hl
theorem jE {α:Type} {ks:List Key} {xs:List α} {k:Key} {x : α} (h:ks.length = xs.length):(br ks k).length = (putAt ks xs k x).length:=by
  unfold br putAt; split <;> simp [h]
theorem nZ {β:Type} {k:Key}:∀ {ks:List Key} {xs:List β},ks.length = xs.length → ((ks.zip xs).any fun kv=>decide (kv.1 = k)) = aN ks k
  | [],[],_=>rfl
  | j :: ks,x :: xs,hl=>by
    rw [List.zip_cons_cons,List.any_cons,nZ (by simpa using hl),aN]
    by_cases e:j = k
    · simp [e]
    · simp [e]
  | [],_ :: _,hl=>by simp at hl
  | _ :: _,[],hl=>by simp at hl
theorem s_ {ks:List Key} {xs:List V} {k:Key} {v:V} (h:ks.length = xs.length):dN (ks.zip xs) k v = (br ks k).zip (putAt ks xs k v):=by
  unfold dN br putAt
  rw [nZ h]
  by_cases e:aN ks k = true
  · rw [if_pos e,if_pos e,if_pos e]
    clear e
    induction ks generalizing xs with
    | nil=>rfl
    | cons j ks ih =>
      cases xs with
      | nil=>simp at h
      | cons x xs =>
        rw [List.zip_cons_cons,List.map_cons,List.zipWith_cons_cons,List.zip_cons_cons,ih (by simpa using h)]
        by_cases e:j = k <;> simp [e]
  · rw [if_neg e,if_neg e,if_neg e]
    rw [List.zip_append h]; rfl
theorem kZ {G H:Hp} {O:Own} {i:Nat} {k:Key} {d:D} {v:V} (hi:imm d = true) (hr:Rep G d v):∀ {ks:List Key} {ds:List D} {m:Nat} {π:List Nat} {xs:List V},ks.length = ds.length → Seps G H O i ds m π xs →
    Seps G H O i (List.zipWith (fun j y=>if j = k then d else y) ks ds) m π (List.zipWith (fun j y=>if j = k then v else y) ks xs)
  | [],[],m,π,xs,_,h=>by rw [Seps] at h; subst h; show Seps _ _ _ _ [] _ _ []; rw [Seps]
  | j :: ks,e :: ds,m,π,xs,hl,h=>by
    rw [Seps] at h
    obtain ⟨u,us,rfl,h1,h2⟩:=h
    rw [List.zipWith_cons_cons,List.zipWith_cons_cons,Seps]
    refine ⟨_,_,rfl,?_,kZ hi hr (by simpa using hl) h2⟩
    by_cases c:j = k
    · rw [if_pos c,if_pos c]; exact hr.sep d _ v hi
    · rw [if_neg c,if_neg c]; exact h1
  | [],_ :: _,_,_,_,hl,_=>by simp at hl
  | _ :: _,[],_,_,_,hl,_=>by simp at hl
theorem mI {G H:Hp} {O:Own} {i:Nat} {k:Key} {d:D} {v:V} {ks:List Key} {ds:List D} {π:List Nat} {xs:List V} (hi:imm d = true) (hr:Rep G d v) (hl:ks.length = ds.length) (h:Seps G H O i ds 0 π xs) :
    Seps G H O i (putAt ks ds k d) 0 π (putAt ks xs k v):=by
  unfold putAt
  split
  · exact kZ hi hr hl h
  · exact h.snoc (hr.sep d _ v hi)
section
variable {C:Ctx} {ow:List Bool} {G:Hp} {ρ:DSt} {σ:St} {H:Hp} {pd:List (D × V)} {O:Own}
theorem RO.newD (h:RO C ow G ρ σ H pd O) {p:Addr} (hp:H p = none):R C ow G ρ σ (upd H p (.dK [])) ((.dic [] [],.ref p) :: pd):=by
  obtain ⟨gp,op,_⟩:G p = none ∧ O p = none ∧ C.H p = none:=h.free hp
  have ne:∀ a l,O a = some l → a ≠ p:=fun a l e z=>by rw [z,op] at e; cases e
  let O':Own:=fun a=>if a = p then some (2 * pd.length + 1,[]) else O a
  have old:∀ a l,O a = some l → O' a = some l:=fun a l e=>by
    show (if a = p then _ else _) = _
    rw [if_neg (ne a _ e),e]
  refine ⟨O',h.len,?_,h.g0,h.gn,?_,h.cok,?_,?_,h.mp,?_,⟨?_,?_⟩,Nat.le_succ_of_le h.np⟩
  · intro a u e
    rw [am (fun z=>by rw [z,gp] at e; cases e)]
    exact h.gh _ _ e
  · intro a l e
    by_cases z:a = p
    · subst z; exact ⟨gp,⟨.inr [],aH⟩,.inl (h.al _ hp)⟩
    · rw [am z]
      change (if a = p then _ else _) = _ at e
      rw [if_neg z] at e
      exact h.og a _ e
  · intro a u e n
    rw [am (au (h.fr a u e n) hp)]
    exact h.fr a u e n
  · intro a e
    by_cases z:a = p
    · subst z; rw [aH] at e; cases e
    · rw [am z] at e; exact h.al a e
  · intro i d e
    obtain ⟨v,h1,h2⟩:=h.sl i d e
    refine ⟨v,h1,?_⟩
    split at h2
    · rename_i c; rw [if_pos c]; exact h2.keep (fun _ _ z=>z) fun a τ q=>⟨old a _ q,am (ne a _ q)⟩
    · rename_i c; rw [if_neg c]; exact h2
  · rw [Sep]
    exact ⟨p,[],rfl,by show (if p = p then _ else _) = _; rw [if_pos rfl],aH,rfl,by rw [Seps]⟩
  · exact bX.keep (fun _ _ z=>z) (fun a j π hj q=>⟨old a _ q,am (ne a _ q)⟩) h.pn
theorem RO.writeD (h:RO C ow G ρ σ H pd O) {i:Nat} {ks:List Key} {ds:List D} (e : ρ[i]? = some (some (.dic ks ds))) (hi:ow[i]? = some true) :
    ∃ a xs,σ[i]? = some (some (.ref a)) ∧ H a = some (.dK (ks.zip xs)) ∧ ks.length = ds.length ∧ Seps G H O (2 * i) ds 0 [] xs ∧
      ∀ (ks':List Key) ds' xs',ks'.length = ds'.length → Seps G H O (2 * i) ds' 0 [] xs' → RO C ow G (ρ.set i (some (.dic ks' ds'))) σ (upd H a (.dK (ks'.zip xs'))) pd O:=by
  obtain ⟨v,hv,s⟩:=h.sl i _ e
  rw [if_pos hi,Sep] at s
  obtain ⟨a,xs,rfl,hO,hH,hl,hs⟩:=s
  refine ⟨a,xs,hv,hH,hl,hs,fun ks' ds' xs' hl' hs'=>?_⟩
  obtain ⟨g0,_,nw⟩:=h.og a _ hO
  have ne:∀ b l π,O b = some (l,π) → (l ≠ 2 * i ∨ π ≠ []) → b ≠ a:=fun b l π q n z=>by
    subst z
    rw [hO] at q
    obtain ⟨q1,q2⟩:=Prod.mk.inj (Option.some.inj q)
    rcases n with n | n
    · exact n q1.symm
    · exact n q2.symm
  refine ⟨by simp [h.len],?_,h.g0,h.gn,?_,h.cok,?_,?_,h.mp,?_,?_,h.np⟩
  · intro b o q
    rw [am (fun z=>by rw [z,g0] at q; cases q)]; exact h.gh _ _ q
  · intro b l q
    obtain ⟨q1,⟨ys,q2⟩,q3⟩:=h.og b l q
    refine ⟨q1,?_,q3⟩
    by_cases z:b = a
    · subst z; exact ⟨.inr _,aH⟩
    · rw [am z]; exact ⟨ys,q2⟩
  · intro b o q n
    by_cases z:b = a
    · subst z
      rcases nw with nw | ⟨_,nw⟩
      · rw [nw] at q; cases q
      · rw [nw] at n; cases n
    · rw [am z]; exact h.fr b o q n
  · intro b q
    by_cases z:b = a
    · subst z; rw [aH] at q; cases q
    · rw [am z] at q; exact h.al b q
  · intro j u q
    rcases dE q with ⟨rfl,z⟩ | ⟨z,q'⟩
    · cases z
      refine ⟨_,hv,?_⟩
      rw [if_pos hi,Sep]
      exact ⟨a,xs',rfl,hO,aH,hl',hs'.keep (fun _ _ z=>z) fun b τ hτ q=>⟨q,am (ne b _ _ q (.inr (by simpa using hτ)))⟩⟩
    · obtain ⟨w,h1,h2⟩:=h.sl j u q'
      refine ⟨w,h1,?_⟩
      split at h2
      · rename_i c; rw [if_pos c]; exact h2.keep (fun _ _ z=>z) fun b τ q=>⟨q,am (ne b _ _ q (.inl (by exact zo44 z)))⟩
      · rename_i c; rw [if_neg c]; exact h2
  · exact bX.keep (fun _ _ z=>z) (fun b j π hj q=>⟨q,am (ne b _ _ q (.inl (fun z=>cj z.symm)))⟩) h.pn
end
section
variable {X:Cx} {M:Md} {ow:List Bool} {a b c e:Expr} {ma mb mc:ME} {pos:Pos}
theorem nN:QF X ow (.Dict [] [] pos) (mC (.dic [] [])):=⟨_,pF,fun C G ρ σ H pd q Q r hm k p hp=>by
  obtain ⟨O,r⟩:=r
  exact k _ ρ _ G _ hm (aJ.refl _) Kp.refl (r.newD hp)⟩
def rInK:R2:=fun y x H Q=>∃ a kvs k,x = .ref a ∧ y = kV k ∧ H a = some (.dK kvs) ∧ Q (.bl (fc kvs k).isSome) H
def uT:R2:=fun y x H Q=>∃ a kvs k,x = .ref a ∧ y = kV k ∧ H a = some (.dK kvs) ∧ Q (.bl (!(fc kvs k).isSome)) H
theorem xG (hu:X.A.units + 1 < cLine):OpR X (compareOp .In) rInK:=by
  intro pins s σ H x y v u Q I rx ry h
  obtain ⟨p,kvs,k,rfl,rfl,g,q⟩:=h
  cases ry
  exact d_in hu I (iG.k g) rx fun s' I'=>⟨.bl _,H,I',rfl,q⟩
theorem eX (hu:X.A.units + 1 < cLine):OpR X (compareOp .NotIn) uT:=by
  intro pins s σ H x y v u Q I rx ry h
  obtain ⟨p,kvs,k,rfl,rfl,g,q⟩:=h
  cases ry
  exact sK hu I (iG.k g) rx fun s' I'=>⟨.bl _,H,I',rfl,q⟩
def fInK (neg:Bool):D → D → (D → Prop) → Prop:=fun x y q=>match y with
  | .dic ks _=>∃ k,x = rX k ∧ q (.bl (if neg then !aN ks k else aN ks k))
  | _=>False
theorem ip {G:Hp} {k:Key} {ks:List Key} {ds:List D} {xs:List V} (hl:ks.length = ds.length) (h:Reps G ds xs):(fc (ks.zip xs) k).isSome = aN ks k:=by
  rw [← e6 (ds:=ds) hl]
  rcases lR (k:=k) hl h with ⟨e1,e2⟩ | ⟨d,v,e1,e2,_⟩ <;> rw [e1,e2] <;> rfl
theorem dInK:DOp rInK (fInK false):=fun G H x y dx dy q Q s p1 p2 hf k=>by
  unfold fInK at hf
  split at hf
  · obtain ⟨kk,rfl,hq⟩:=hf
    rw [Rep] at p2
    obtain ⟨p,xs,rfl,g1,g2,g3⟩:=p2
    refine ⟨p,_,kk,rfl,gM p1,s _ _ g1,?_⟩
    rw [ip g2 g3]
    exact k _ _ hq (bS _)
  · exact hf.elim
theorem nK:DOp uT (fInK true):=fun G H x y dx dy q Q s p1 p2 hf k=>by
  unfold fInK at hf
  split at hf
  · obtain ⟨kk,rfl,hq⟩:=hf
    rw [Rep] at p2
    obtain ⟨p,xs,rfl,g1,g2,g3⟩:=p2
    refine ⟨p,_,kk,rfl,gM p1,s _ _ g1,?_⟩
    rw [ip g2 g3]
    exact k _ _ hq (bS _)
  · exact hf.elim
def t6:D → D → (D → Prop) → Prop:=fun x y q=>match x with
  | .dic ks ds=>∃ k d,y = rX k ∧ b7 ks ds k = some d ∧ q d
  | _=>False
theorem d5 (hu:X.A.units + 1 < cLine) (ha:QE X ow a ma) (hb:QE X ow b mb) (hs:NoSl b:=by exact fun _ _=>rfl):QE X ow (.Subscript a b pos) (mOp t6 ma mb):=by
  obtain ⟨ta,pa,sa⟩:=ha; obtain ⟨tb,pb,sb⟩:=hb
  refine ⟨_,sQ hu pa pb hs,fun C G ρ σ H pd q Q hr h k=>?_⟩
  refine iw sa sb hr h fun dx dy ρ' x y G' H' hf s kp r' p1 p2=>?_
  unfold t6 at hf
  split at hf
  · obtain ⟨kk,d,rfl,e,hq⟩:=hf
    rw [Rep] at p1
    obtain ⟨p,xs,rfl,g1,g2,g3⟩:=p1
    rcases lR (k:=kk) g2 g3 with ⟨e1,_⟩ | ⟨d',v,e1,e2,e3⟩
    · rw [e] at e1; cases e1
    · rw [e] at e1; cases e1
      refine ⟨p,v,rfl,?_,k d ρ' v G' H' hq s kp r' e3⟩
      rw [gM p2,← e2]
      exact iG.k (r'.gh _ _ g1)
  · exact hf.elim
def mPutK (i:Nat) (mk m:ME):MS:=fun n ρ=>m ρ fun d ρ1=>imm d = true ∧ match ρ1[i]? with
  | some (some (.dic _ _))=>mk ρ1 fun kd ρ2=>match ρ2[i]? with
    | some (some (.dic ks ds))=>∃ k,kd = rX k ∧ ks.length < 1000 ∧ n.nx (ρ2.set i (some (.dic (br ks k) (putAt ks ds k d))))
    | _=>False
  | _=>False
theorem ft {i:Nat} {x:Str} {npos spos:Pos} (hu:X.A.units + 1 < cLine) (hN:X.N[i]? = some x) (he:QE X M.ow e ma) (hk:QE X M.ow b mb) (ho:M.ow[i]? = some true:=by decide)
    (hv:Vis X.env.scope x:=by first | exact Or.inl rfl | exact Or.inr (Or.inl rfl) | exact Or.inr (Or.inr rfl)) (hd:(x == ("__debug__":Str)) = false:=by decide) (hcd:(x == ("__classdict__":Str)) = false:=by decide)
    (hs:swapsWith e (some (.Subscript (.Name x npos) b spos)) pos.line X.env = pure false:=by rfl) :
    QS X M (.Assign [.Subscript (.Name x npos) b spos] e pos) (mPutK i mb ma):=by
  obtain ⟨t,p,s⟩:=he; obtain ⟨t2,p2,s2⟩:=hk
  refine ⟨_,tH hu (d6 hN hv hd hcd) p2 p hs,fun C G ρ σ H n D hm hn r h k=>s C G ρ σ H [] _ _ r h fun d ρ' v G' H' hq z kp r' pv=>?_⟩
  obtain ⟨hi,hq⟩:=hq
  split at hq
  · rename_i ks0 ds0 e0
    obtain ⟨O0,ro⟩:=r'
    obtain ⟨a,xs,hu,_⟩:=ro.writeD e0 ho
    refine ⟨.ref a,hu,?_⟩
    refine s2 C G' ρ' σ H' _ _ _ ⟨O0,ro⟩ hq fun dk ρ2 jv G2 H2 hq2 z2 kp2 r2 pj=>?_
    split at hq2
    · rename_i ks ds e2
      obtain ⟨kk,rfl,hl,hq2⟩:=hq2
      obtain ⟨O2,r2⟩:=r2
      obtain ⟨a',xs',g1,g2,g3,g4,g5⟩:=r2.writeD e2 ho
      rw [hu] at g1; cases g1
      have hx:ks.length = xs'.length:=by rw [g4.length]; exact g3
      refine ⟨a,_,rfl,by rw [gM pj]; exact q9.k g2 (by rw [List.length_zip,← hx,Nat.min_self]; exact bY (Nat.le_of_lt hl)),?_⟩
      rw [s_ hx]
      exact k.nx _ _ G2 _ hq2 (z.trans z2) ⟨O2,g5 _ _ _ (jE g3) (mI hi (Rep.mono z2 _ _ pv) g3 g4)⟩
    · exact hq2.elim
  · exact hq.elim
end
def fH:D → Nat → Option D
  | .lst ds,c=>ds[c]?
  | .tup ds,c=>ds[c]?
  | _,_=>none
def putS:D → Nat → D → D
  | .lst ds,c,e=>.lst (ds.set c e)
  | .tup ds,c,e=>.tup (ds.set c e)
  | d,_,_=>d
def lenD:D → Nat
  | .lst ds=>ds.length
  | .tup ds=>ds.length
  | _=>0
def gk:List Nat → D → Option D
  | [],d=>some d
  | c :: p,d=>match fH d c with
    | some e=>gk p e
    | none=>none
def iA:List Nat → D → D → D
  | [],_,x=>x
  | c :: p,d,x=>match fH d c with
    | some e=>putS d c (iA p e x)
    | none=>d
def ld (H:Hp) (v:V) (xs:List V):Prop:=∃ b,v = .ref b ∧ (H b = some (.lst xs) ∨ H b = some (.tup xs))
def cG (H:Hp):List Nat → V → V → Prop
  | [],v,u=>v = u
  | c :: p,v,u=>∃ xs w,ld H v xs ∧ xs[c]? = some w ∧ cG H p w u
theorem ld.one {H:Hp} {v:V} {xs ys:List V} (h:ld H v xs) (g:ld H v ys):xs = ys:=by
  obtain ⟨b,rfl,h⟩:=h
  obtain ⟨b',e,g⟩:=g
  cases e
  rcases h with h | h <;> rcases g with g | g <;> (rw [h] at g; cases g) <;> rfl
theorem ld.mono {H H':Hp} {v:V} {xs:List V} (s:aJ H H') (h:ld H v xs):ld H' v xs:=by
  obtain ⟨b,e,h⟩:=h
  exact ⟨b,e,h.imp (s _ _) (s _ _)⟩
theorem cG.mono {H H':Hp} (s:aJ H H'):∀ {p:List Nat} {v u:V},cG H p v u → cG H' p v u
  | [],_,_,h=>h
  | _ :: _,_,_,⟨xs,w,h1,h2,h3⟩=>⟨xs,w,h1.mono s,h2,h3.mono s⟩
theorem cG.one {H:Hp}:∀ {p:List Nat} {v u u':V},cG H p v u → cG H p v u' → u = u'
  | [],_,_,_,h,g=>h.symm.trans g
  | _ :: _,_,_,_,⟨xs,w,h1,h2,h3⟩,⟨ys,w',g1,g2,g3⟩=>by
    cases h1.one g1
    rw [h2] at g2; cases g2
    exact h3.one g3
theorem cG.snoc {H:Hp} {c:Nat} {xs:List V} {w:V}:∀ {p:List Nat} {v u:V},cG H p v u → ld H u xs → xs[c]? = some w → cG H (p ++ [c]) v w
  | [],v,u,h,g,e=>by cases h; exact ⟨xs,w,g,e,rfl⟩
  | _ :: _,_,_,⟨ys,w',h1,h2,h3⟩,g,e=>⟨ys,w',h1,h2,h3.snoc g e⟩
theorem jO {c:Nat}:∀ {p:List Nat} {d e:D},gk p d = some e → gk (p ++ [c]) d = fH e c
  | [],d,e,h=>by cases h; show (match fH d c with | some e=>gk [] e | none=>none) = _; cases fH d c <;> rfl
  | b :: p,d,e,h=>by
    show (match fH d b with | some e=>gk (p ++ [c]) e | none=>none) = _
    change (match fH d b with | some e=>gk p e | none=>none) = _ at h
    cases q:fH d b with
    | none=>rw [q] at h; cases h
    | some e'=>rw [q] at h; exact jO h
theorem Rep.walk {H:Hp}:∀ {p:List Nat} {d e:D} {v:V},Rep H d v → gk p d = some e → ∃ u,cG H p v u ∧ Rep H e u
  | [],d,e,v,h,g=>by cases g; exact ⟨v,rfl,h⟩
  | c :: p,d,e,v,h,g=>by
    change (match fH d c with | some e=>gk p e | none=>none) = _ at g
    cases q:fH d c with
    | none=>rw [q] at g; cases g
    | some d1 =>
      rw [q] at g
      cases d with
      | lst ds =>
        rw [Rep] at h
        obtain ⟨a,xs,rfl,h1,h2⟩:=h
        obtain ⟨w,d',e1,e2,e3⟩:=fG (r:=c) h2 (List.getElem?_eq_some_iff.mp q).1
        rw [show ds[c]? = some d1 from q] at e2; cases e2
        obtain ⟨u,k1,k2⟩:=Rep.walk e3 g
        exact ⟨u,⟨xs,w,⟨a,rfl,.inl h1⟩,e1,k1⟩,k2⟩
      | tup ds =>
        rw [Rep] at h
        obtain ⟨a,xs,rfl,h1,h2⟩:=h
        obtain ⟨w,d',e1,e2,e3⟩:=fG (r:=c) h2 (List.getElem?_eq_some_iff.mp q).1
        rw [show ds[c]? = some d1 from q] at e2; cases e2
        obtain ⟨u,k1,k2⟩:=Rep.walk e3 g
        exact ⟨u,⟨xs,w,⟨a,rfl,.inr h1⟩,e1,k1⟩,k2⟩
      | _=>cases q
theorem Seps.repl {G H H':Hp} {O:Own} {i:Nat} {d':D}:∀ {es:List D} {k0:Nat} {π:List Nat} {ys:List V} {c:Nat} {u:V},Seps G H O i es k0 π ys → ys[c]? = some u → Sep G H' O i d' ((k0 + c) :: π) u →
    (∀ (j:Nat) d v,j ≠ c → Sep G H O i d ((k0 + j) :: π) v → Sep G H' O i d ((k0 + j) :: π) v) → Seps G H' O i (es.set c d') k0 π ys
  | [],k0,π,ys,c,u,h,e,_,_=>by rw [Seps] at h; subst h; simp at e
  | d :: es,k0,π,ys,0,u,h,e,h1,h2=>by
    rw [Seps] at h
    obtain ⟨w,ws,rfl,w1,w2⟩:=h
    simp at e; subst e
    rw [List.set_cons_zero,Seps]
    refine ⟨_,ws,rfl,by simpa using h1,?_⟩
    have all:∀ (es:List D) (k:Nat) (ws:List V),k0 < k → Seps G H O i es k π ws → Seps G H' O i es k π ws:=by
      intro es
      induction es with
      | nil=>intro k ws _ h; rw [Seps] at *; exact h
      | cons d es ih =>
        intro k ws hk h
        rw [Seps] at *
        obtain ⟨v,vs,rfl,v1,v2⟩:=h
        refine ⟨v,vs,rfl,?_,ih (k + 1) vs (by exact tY hk) v2⟩
        have:=h2 (k - k0) d v (by exact zo257 hk)
        rw [show k0 + (k - k0) = k by exact zo210 hk] at this
        exact this v1
    exact all es (k0 + 1) ws (by exact uA) w2
  | d :: es,k0,π,ys,c + 1,u,h,e,h1,h2=>by
    rw [Seps] at h
    obtain ⟨w,ws,rfl,w1,w2⟩:=h
    rw [List.set_cons_succ,Seps]
    refine ⟨w,ws,rfl,by have:=h2 0 d w (by exact zo373); simpa using this (by simpa using w1),Seps.repl w2 (by simpa using e) ?_ ?_⟩
    · rw [show k0 + 1 + c = k0 + (c + 1) by exact kD]; exact h1
    · intro j d v hj
      rw [show k0 + 1 + j = k0 + (j + 1) by exact kD]
      exact h2 (j + 1) d v (by exact zo311 hj)
theorem Sep.focus {G H:Hp} {O:Own} {i:Nat} (gh:aJ G H) (og:∀ a l,O a = some l → G a = none):∀ {p:List Nat} {d:D} {π:List Nat} {v:V} {ds:List D},Sep G H O i d π v → gk p d = some (.lst ds) →
    ∃ a xs,cG H p v (.ref a) ∧ O a = some (i,p.reverse ++ π) ∧ H a = some (.lst xs) ∧ Seps G H O i ds 0 (p.reverse ++ π) xs ∧
      ∀ ds' xs',Seps G H O i ds' 0 (p.reverse ++ π) xs' → Sep G (upd H a (.lst xs')) O i (iA p d (.lst ds')) π v
  | [],d,π,v,ds,h,g=>by
    cases g
    rw [Sep] at h
    obtain ⟨a,xs,rfl,h1,h2,h3⟩:=h
    refine ⟨a,xs,rfl,h1,h2,h3,fun ds' xs' h'=>?_⟩
    show Sep G _ O i (.lst ds') π _
    rw [Sep]
    refine ⟨a,xs',rfl,h1,aH,h'.keep (fun _ _ z=>z) fun b τ hτ q=>⟨q,am fun z=>?_⟩⟩
    rw [z,h1] at q
    have:=congrArg List.length (Prod.mk.inj (Option.some.inj q)).2
    simp at this
    exact hτ this
  | c :: p,d,π,v,ds,h,g=>by
    change (match fH d c with | some e=>gk p e | none=>none) = _ at g
    cases q:fH d c with
    | none=>rw [q] at g; cases g
    | some d1 =>
      rw [q] at g
      have other:∀ (a b:Addr) (j:Nat) (τ:List Nat),O a = some (i,p.reverse ++ c :: π) → O b = some (i,τ ++ j :: π) → j ≠ c → b ≠ a:=fun a b j τ ha hb hj z=>by
        rw [z,ha] at hb
        have e:=congrArg List.reverse (Prod.mk.inj (Option.some.inj hb)).2
        simp at e
        exact hj e.1.symm
      have lab:(c :: p).reverse ++ π = p.reverse ++ c :: π:=by simp
      have hset:∀ x,iA (c :: p) d x = putS d c (iA p d1 x):=fun x=>by
        show (match fH d c with | some e=>putS d c (iA p e x) | none=>d) = _
        rw [q]
      cases d with
      | lst es =>
        rw [Sep] at h
        obtain ⟨a0,ys,rfl,h1,h2,h3⟩:=h
        obtain ⟨w,e1,e2⟩:=h3.at (j:=c) q
        rw [Nat.zero_add] at e2
        obtain ⟨a,xs,k1,k2,k3,k4,k5⟩:=Sep.focus gh og e2 g
        have n0:a0 ≠ a:=fun z=>by
          rw [← z,h1] at k2
          have:=congrArg List.length (Prod.mk.inj (Option.some.inj k2)).2
          simp at this
          exact zo357 this
        refine ⟨a,xs,⟨ys,w,⟨a0,rfl,.inl h2⟩,e1,k1⟩,by rw [lab]; exact k2,k3,by rw [lab]; exact k4,fun ds' xs' h'=>?_⟩
        rw [hset]
        show Sep G _ O i (.lst (es.set c _)) π _
        rw [Sep]
        refine ⟨a0,ys,rfl,h1,by rw [am n0]; exact h2,?_⟩
        refine h3.repl e1 (by rw [Nat.zero_add]; exact k5 ds' xs' (by rw [lab] at h'; exact h')) fun j d v hj s=>?_
        rw [Nat.zero_add] at s ⊢
        exact s.keep (fun _ _ z=>z) fun b τ qb=>⟨qb,am (other a b j τ k2 qb hj)⟩
      | tup es =>
        rw [Sep] at h
        obtain ⟨a0,ys,rfl,h1,h3⟩:=h
        obtain ⟨w,e1,e2⟩:=h3.at (j:=c) q
        rw [Nat.zero_add] at e2
        obtain ⟨a,xs,k1,k2,k3,k4,k5⟩:=Sep.focus gh og e2 g
        refine ⟨a,xs,⟨ys,w,⟨a0,rfl,.inr (gh _ _ h1)⟩,e1,k1⟩,by rw [lab]; exact k2,k3,by rw [lab]; exact k4,fun ds' xs' h'=>?_⟩
        rw [hset]
        show Sep G _ O i (.tup (es.set c _)) π _
        rw [Sep]
        refine ⟨a0,ys,rfl,h1,?_⟩
        refine h3.repl e1 (by rw [Nat.zero_add]; exact k5 ds' xs' (by rw [lab] at h'; exact h')) fun j d v hj s=>?_
        rw [Nat.zero_add] at s ⊢
        exact s.keep (fun _ _ z=>z) fun b τ qb=>⟨qb,am (other a b j τ k2 qb hj)⟩
      | _=>cases q
section
variable {C:Ctx} {ow:List Bool} {G:Hp} {ρ:DSt} {σ:St} {H:Hp} {pd:List (D × V)} {O:Own}
theorem RO.writeP (h:RO C ow G ρ σ H pd O) {i:Nat} {p:List Nat} {d:D} {ds:List D} (e : ρ[i]? = some (some d)) (hp:gk p d = some (.lst ds)) (hi:ow[i]? = some true) :
    ∃ v a xs,σ[i]? = some (some v) ∧ cG H p v (.ref a) ∧ H a = some (.lst xs) ∧ Seps G H O (2 * i) ds 0 p.reverse xs ∧
      ∀ ds' xs',Seps G H O (2 * i) ds' 0 p.reverse xs' → RO C ow G (ρ.set i (some (iA p d (.lst ds')))) σ (upd H a (.lst xs')) pd O:=by
  obtain ⟨v,hv,s⟩:=h.sl i _ e
  rw [if_pos hi] at s
  obtain ⟨a,xs,k1,k2,k3,k4,k5⟩:=Sep.focus h.gh (fun a l e=>(h.og a l e).1) s hp
  rw [List.append_nil] at k2 k4 k5
  refine ⟨v,a,xs,hv,k1,k3,k4,fun ds' xs' hs'=>?_⟩
  obtain ⟨g0,_,nw⟩:=h.og a _ k2
  have ne:∀ b l π,O b = some (l,π) → l ≠ 2 * i → b ≠ a:=fun b l π q n z=>by
    rw [z,k2] at q
    exact n (Prod.mk.inj (Option.some.inj q)).1.symm
  refine ⟨by simp [h.len],?_,h.g0,h.gn,?_,h.cok,?_,?_,h.mp,?_,?_,h.np⟩
  · intro b o q
    rw [am (fun z=>by rw [z,g0] at q; cases q)]; exact h.gh _ _ q
  · intro b l q
    obtain ⟨q1,⟨ys,q2⟩,q3⟩:=h.og b l q
    refine ⟨q1,?_,q3⟩
    by_cases z:b = a
    · subst z; exact ⟨.inl _,aH⟩
    · rw [am z]; exact ⟨ys,q2⟩
  · intro b o q n
    by_cases z:b = a
    · subst z
      rcases nw with nw | ⟨_,nw⟩
      · rw [nw] at q; cases q
      · rw [nw] at n; cases n
    · rw [am z]; exact h.fr b o q n
  · intro b q
    by_cases z:b = a
    · subst z; rw [aH] at q; cases q
    · rw [am z] at q; exact h.al b q
  · intro j u q
    rcases dE q with ⟨rfl,z⟩ | ⟨z,q'⟩
    · cases z
      exact ⟨v,hv,by rw [if_pos hi]; exact k5 ds' xs' hs'⟩
    · obtain ⟨w,h1,h2⟩:=h.sl j u q'
      refine ⟨w,h1,?_⟩
      split at h2
      · rename_i c; rw [if_pos c]; exact h2.keep (fun _ _ z=>z) fun b τ q=>⟨q,am (ne b _ _ q (by exact zo44 z))⟩
      · rename_i c; rw [if_neg c]; exact h2
  · exact bX.keep (fun _ _ z=>z) (fun b j π hj q=>⟨q,am (ne b _ _ q (fun z=>cj z.symm))⟩) h.pn
end
abbrev MN0:=DSt → (Int → Prop) → Prop
def SN0 (ow:List Bool) (t:TE) (m:MN0):Prop:=∀ (C:Ctx) (G:Hp) (ρ:DSt) (σ:St) (H:Hp) (pd:List (D × V)) (q:Int → Prop) (Q:VK),R C ow G ρ σ H pd → m ρ q → (∀ n,q n → Q (.int n) H) → t σ H Q
structure QN0 (X:Cx) (ow:List Bool) (e:Expr) (m:MN0):Prop where
  ex:∃ t,PE X e t ∧ SN0 ow t m
section
variable {X:Cx} {ow:List Bool} {a b e:Expr} {pos:Pos} {ma mb:MN0}
theorem l4 {i j}:QN0 X ow (.Constant (.int i) j pos) (fun _ q=>q i):=⟨_,pO,fun C G ρ σ H pd q Q r h k=>k _ h⟩
theorem qW (i:Nat) {x:Str} (hs:ow[i]? ≠ some true:=by decide) (hN:X.N[i]? = some x:=by rfl) (hv:Vis X.env.scope x:=by first | exact Or.inl rfl | exact Or.inr (Or.inl rfl) | exact Or.inr (Or.inr rfl)) (hd:(x == ("__debug__":Str)) = false:=by decide)
    (hcd:(x == ("__classdict__":Str)) = false:=by decide):QN0 X ow (.Name x pos) (fun ρ q=>∃ n,ρ[i]? = some (some (.int n)) ∧ q n):=⟨_,d6 hN hv hd hcd,fun C G ρ σ H pd q Q r h k=>by
  obtain ⟨n,e,hq⟩:=h
  obtain ⟨O,ro⟩:=r
  obtain ⟨v,h1,h2⟩:=ro.sl i _ e
  rw [if_neg hs] at h2
  refine ⟨v,h1,?_⟩
  rw [aG h2]; exact k n hq⟩
end
abbrev MPt:=DSt → (List Nat → D → Prop) → Prop
def SPt (ow:List Bool) (i:Nat) (t:TE) (m:MPt):Prop:=∀ (C:Ctx) (G:Hp) (ρ:DSt) (σ:St) (H:Hp) (pd:List (D × V)) (O:Own) (q:List Nat → D → Prop) (Q:VK),RO C ow G ρ σ H pd O → m ρ q →
  (∀ p d0 e v0 v,q p e → ρ[i]? = some (some d0) → gk p d0 = some e → σ[i]? = some (some v0) → cG H p v0 v → Q v H) → t σ H Q
structure QPt (X:Cx) (ow:List Bool) (i:Nat) (e:Expr) (m:MPt):Prop where
  ex:∃ t,PE X e t ∧ SPt ow i t m
theorem RO.walk {C:Ctx} {ow:List Bool} {G:Hp} {ρ:DSt} {σ:St} {H:Hp} {pd:List (D × V)} {O:Own} (h:RO C ow G ρ σ H pd O) {i:Nat} {p:List Nat} {d e:D} (e1 : ρ[i]? = some (some d)) (hp:gk p d = some e) :
    ∃ v u,σ[i]? = some (some v) ∧ cG H p v u ∧ ∃ G',aJ G' H ∧ cG G' p v u ∧ Rep G' e u:=by
  obtain ⟨v,hv,_⟩:=h.sl i _ e1
  have r:=h.enter [i]
  obtain ⟨v',hv',s⟩:=r.sl i _ e1
  rw [hv] at hv'; cases hv'
  rw [if_neg (fun z=>by rw [cV] at z; simp at z)] at s
  obtain ⟨u,k1,k2⟩:=Rep.walk s hp
  exact ⟨v,u,hv,k1.mono r.gh,_,r.gh,k1,k2⟩
section
variable {X:Cx} {M:Md} {ow:List Bool} {i:Nat} {a b e:Expr} {pos:Pos} {mp:MPt} {mz:MN0} {ma:ME}
theorem mY {x:Str} (hN:X.N[i]? = some x:=by rfl) (hv:Vis X.env.scope x:=by first | exact Or.inl rfl | exact Or.inr (Or.inl rfl) | exact Or.inr (Or.inr rfl)) (hd:(x == ("__debug__":Str)) = false:=by decide)
    (hcd:(x == ("__classdict__":Str)) = false:=by decide):QPt X ow i (.Name x pos) (fun ρ q=>∃ d,ρ[i]? = some (some d) ∧ q [] d):=⟨_,d6 hN hv hd hcd,fun C G ρ σ H pd O q Q r h k=>by
  obtain ⟨d,e,hq⟩:=h
  obtain ⟨v,h1,_⟩:=r.sl i _ e
  exact ⟨v,h1,k [] d d v v hq e rfl h1 rfl⟩⟩
def mPIx (mp:MPt) (mz:MN0):MPt:=fun ρ q=>mp ρ fun p d=>mz ρ fun n=>∃ c e,ixN (lenD d) n = some c ∧ fH d c = some e ∧ q (p ++ [c]) e
theorem rg (ha:QPt X ow i a mp) (hb:QN0 X ow b mz) (hs:kG b:=by exact fun _ _=>rfl):QPt X ow i (.Subscript a b pos) (mPIx mp mz):=by
  obtain ⟨ta,pa,sa⟩:=ha; obtain ⟨tb,pb,sb⟩:=hb
  refine ⟨_,t3 ak pa pb hs,fun C G ρ σ H pd O q Q r h k=>?_⟩
  refine sa C G ρ σ H pd O _ _ r h fun p d0 d v0 v hq e1 e2 e3 wk=>?_
  refine sb C G ρ σ H pd _ _ ⟨O,r⟩ hq fun n hn=>?_
  obtain ⟨c,e,h1,h2,hq⟩:=hn
  obtain ⟨v',u,g1,g2,G',sG,g3,g4⟩:=r.walk e1 e2
  rw [e3] at g1; cases g1
  obtain rfl:=wk.one g2
  have hx:∃ bb xs w,v = V.ref bb ∧ (H bb = some (.lst xs) ∨ H bb = some (.tup xs)) ∧ xs.length = lenD d ∧ xs[c]? = some w:=by
    cases d with
    | lst ds =>
      rw [Rep] at g4
      obtain ⟨bb,xs,rfl,f1,f2⟩:=g4
      obtain ⟨w,d',w1,w2,w3⟩:=fG (r:=c) f2 (List.getElem?_eq_some_iff.mp h2).1
      exact ⟨bb,xs,w,rfl,.inl (sG _ _ f1),f2.length,w1⟩
    | tup ds =>
      rw [Rep] at g4
      obtain ⟨bb,xs,rfl,f1,f2⟩:=g4
      obtain ⟨w,d',w1,w2,w3⟩:=fG (r:=c) f2 (List.getElem?_eq_some_iff.mp h2).1
      exact ⟨bb,xs,w,rfl,.inr (sG _ _ f1),f2.length,w1⟩
    | _=>cases h2
  obtain ⟨bb,xs,w,rfl,f1,f2,f3⟩:=hx
  have at1:atI xs n = some w:=by unfold atI; rw [f2,h1]; exact f3
  have fin:Q w H:=k (p ++ [c]) d0 e v0 w hq e1 (by rw [jO e2]; exact h2) e3 (wk.snoc ⟨bb,rfl,f1⟩ f3)
  rcases f1 with f1 | f1
  · exact .inl ⟨bb,xs,n,w,rfl,rfl,SqL.of f1,at1,fin⟩
  · exact .inr (.inl ⟨bb,xs,n,w,rfl,rfl,SqT.of f1,at1,fin⟩)
def mAppP (i:Nat) (mp:MPt) (m:ME):MS:=fun n ρ=>mp ρ fun p e=>∃ d0 ds,e = .lst ds ∧ ρ[i]? = some (some d0) ∧ m ρ fun d ρ1=>imm d = true ∧ ds.length < 1000 ∧ n.nx (ρ1.set i (some (iA p d0 (.lst (ds ++ [d])))))
theorem nH {apos cpos:Pos} (hp:QPt X M.ow i a mp) (he:QE X (bor [i] M.ow) e ma) (ho:M.ow[i]? = some true:=by decide)
    (hbase:attributeBase a "append" X.env (eval a X.env) = eval a X.env:=by rfl)
    (hfew:((backTo cpos (starEach [e] X.env)).all (fun x=>!x.1) && (backToKw cpos (keywordEach [] X.env)).all (fun x=>x.1.isSome)
      && decide ([e].length + ([]:List Keyword).length + (if ([]:List Keyword).isEmpty then 0 else 1) < 30)) = true:=by rfl)
    (hline:(apos.endLine == cpos.line) = true:=by rfl) (hst:starEach [e] X.env = [(false,eval e X.env)]:=by rfl)
    (hs:swapsWith (.Call (.Attribute a "append" apos) [e] [] cpos) none pos.line X.env = pure false:=by rfl) :
    QS X M (.Expr (.Call (.Attribute a "append" apos) [e] [] cpos) pos) (mAppP i mp ma):=by
  obtain ⟨t,p,s⟩:=he; obtain ⟨t1,p1,s1⟩:=hp
  refine ⟨_,gL (pP PySem.F.plainAttrs_list PySem.F.slot_list_append PySem.F.type_list_append iO p1 (bK p cO hst) hbase hfew hline hst (by rfl)) hs,fun C G ρ σ H n D hm hn r h k=>?_⟩
  obtain ⟨O,ro⟩:=r
  refine s1 C G ρ σ H [] O _ _ ro h fun p d0 e v0 u hq e1 e2 e3 wk=>?_
  obtain ⟨d0',ds,rfl,e1',hq⟩:=hq
  rw [e1] at e1'; cases e1'
  have rb:=ro.enter [i]
  obtain ⟨v',hv',sb⟩:=rb.sl i _ e1
  rw [e3] at hv'; cases hv'
  rw [if_neg (fun z=>by rw [cV] at z; simp at z)] at sb
  obtain ⟨u',k1,k2⟩:=Rep.walk sb e2
  cases (k1.mono rb.gh).one wk
  rw [Rep] at k2
  obtain ⟨a1,xs1,rfl,f1,f2⟩:=k2
  refine ⟨.inl ⟨rfl,xs1,SqL.of (rb.gh _ _ f1)⟩,?_⟩
  refine s _ _ ρ σ H [] _ _ ⟨_,rb⟩ hq fun d ρ' v G' H' hq z kp r' pv=>?_
  obtain ⟨O',r'⟩:=r'
  obtain ⟨r2,z2,ts⟩:=ro.leave r' kp
  have ei : ρ'[i]? = some (some d0):=by rw [kp i (fun z=>by rw [cV] at z; simp at z)]; exact e1
  obtain ⟨v1,a2,xs2,g1,g2,g3,g4,g5⟩:=r2.writeP ei e2 ho
  rw [e3] at g1; cases g1
  have k3:cG H' p v0 (.ref a1):=(k1.mono z).mono r'.gh
  cases k3.one g2
  refine ⟨a1,xs2,v,rfl,rfl,g3,by rw [g4.length]; exact bY (Nat.le_of_lt hq.2.1),?_⟩
  exact k.nx _ _ _ _ hq.2.2 z2 ⟨_,g5 _ _ (g4.snoc (by rw [Nat.zero_add]; exact (pv.imms ts d v hq.1).sep d _ v hq.1))⟩
def mClrP (i:Nat) (mp:MPt):MS:=fun n ρ=>mp ρ fun p e=>∃ d0 ds,e = .lst ds ∧ ρ[i]? = some (some d0) ∧ n.nx (ρ.set i (some (iA p d0 (.lst []))))
theorem tj {apos cpos:Pos} (hp:QPt X M.ow i a mp) (ho:M.ow[i]? = some true:=by decide)
    (hbase:attributeBase a "clear" X.env (eval a X.env) = eval a X.env:=by rfl) (hline:(apos.endLine == cpos.line) = true:=by rfl)
    (hs:swapsWith (.Call (.Attribute a "clear" apos) [] [] cpos) none pos.line X.env = pure false:=by rfl) :
    QS X M (.Expr (.Call (.Attribute a "clear" apos) [] [] cpos) pos) (mClrP i mp):=by
  obtain ⟨t1,p1,s1⟩:=hp
  refine ⟨_,gL (rN PySem.F.plainAttrs_list PySem.F.slot_list_clear PySem.F.type_list_clear rS p1 hbase hline) hs,fun C G ρ σ H n D hm hn r h k=>?_⟩
  obtain ⟨O,ro⟩:=r
  refine s1 C G ρ σ H [] O _ _ ro h fun p d0 e v0 u hq e1 e2 e3 wk=>?_
  obtain ⟨d0',ds,rfl,e1',hq⟩:=hq
  rw [e1] at e1'; cases e1'
  obtain ⟨v1,a1,xs,g1,g2,g3,g4,g5⟩:=ro.writeP e1 e2 ho
  rw [e3] at g1; cases g1
  cases wk.one g2
  exact ⟨.inl ⟨rfl,xs,SqL.of g3⟩,a1,xs,rfl,rfl,g3,k.nx _ _ G _ hq (aJ.refl _) ⟨O,g5 [] [] (by rw [Seps])⟩⟩
end
section
variable {X:Cx} {M:Md} {i:Nat} {pos:Pos} {mg:MG} {m:MS}
end
end L2
namespace L2
open PySem
theorem lB {k j:Key} {d:D}:∀ {ks:List Key} {ds:List D},ks.length = ds.length → b7 ks (List.zipWith (fun j y=>if j = k then d else y) ks ds) j = if j = k then (b7 ks ds j).map (fun _=>d) else b7 ks ds j
  | [],[],_=>by simp [b7]
  | i :: ks,e :: ds,hl=>by
    rw [List.zipWith_cons_cons,b7,b7,lB (by simpa using hl)]
    by_cases h1:i = j
    · subst h1
      by_cases h2:i = k <;> simp [h2]
    · simp [h1]
  | [],_ :: _,hl=>by simp at hl
  | _ :: _,[],hl=>by simp at hl
theorem i7 {k j:Key} {d:D}:∀ {ks:List Key} {ds:List D},ks.length = ds.length → ¬ aN ks k = true → b7 (ks ++ [k]) (ds ++ [d]) j = if j = k then some d else b7 ks ds j
  | [],[],_,_=>by
    show (if k = j then some d else b7 [] [] j) = _
    by_cases e:k = j
    · rw [if_pos e,if_pos e.symm]
    · rw [if_neg e,if_neg (fun z=>e z.symm)]
  | i :: ks,e :: ds,hl,hn=>by
    rw [aN] at hn
    have h1 : ¬ i = k:=fun z=>hn (if_pos z)
    rw [if_neg h1] at hn
    show (if i = j then some e else b7 (ks ++ [k]) (ds ++ [d]) j) = _
    rw [b7,i7 (by simpa using hl) hn]
    by_cases h2:i = j
    · subst h2; simp [h1]
    · simp [h2]
  | [],_ :: _,hl,_=>by simp at hl
  | _ :: _,[],hl,_=>by simp at hl
theorem db {ks:List Key} {ds:List D} {k j:Key} {d:D} (hl:ks.length = ds.length):b7 (br ks k) (putAt ks ds k d) j = if j = k then some d else b7 ks ds j:=by
  unfold br putAt
  by_cases h:aN ks k = true
  · rw [if_pos h,if_pos h,lB hl]
    by_cases e:j = k
    · subst e
      rw [if_pos rfl,if_pos rfl]
      have:=e6 (k:=j) hl
      rw [h] at this
      cases q:b7 ks ds j with
      | none=>rw [q] at this; cases this
      | some z=>rfl
    · rw [if_neg e,if_neg e]
  · rw [if_neg h,if_neg h,i7 hl h]
def rD (ks:List Key):D → Option D
  | .int t=>if aN ks (.inl t) = true then some (.int t) else none
  | _=>none
theorem jk (ks:List Key):∀ w:List Int,(w.map D.int).filterMap (rD ks) = (w.filter fun t=>aN ks (.inl t)).map D.int
  | []=>rfl
  | t :: w=>by
    rw [List.map_cons,List.filterMap_cons,List.filter_cons,jk ks w]
    have q:rD ks (D.int t) = if aN ks (.inl t) = true then some (D.int t) else none:=rfl
    rw [q]
    by_cases e:aN ks (.inl t) = true
    · rw [if_pos e,if_pos e]; rfl
    · rw [if_neg e,if_neg e]
end L2
namespace L2
open PySem PySem.Spec PyProof.Rows
section
variable {X:Cx}
end
section
variable {X:Cx} {pins:List (Addr × Obj)} {σ:St} {H:Hp} {s:Shared}
end
section
variable {X:Cx} {ow:List Bool} {pos:Pos}
def pX:R2:=fun x y H Q=>∃ a xs b,x = .ref a ∧ H a = some (.lst xs) ∧ y = .ref b ∧ H b = some (.lst []) ∧ Q (.bl (!xs.isEmpty)) H
def q_:R2:=fun x y H Q=>∃ a xs b,x = .ref a ∧ H a = some (.lst xs) ∧ y = .ref b ∧ H b = some (.lst []) ∧ Q (.bl xs.isEmpty) H
theorem rT (hu:X.A.units + 64 < cLine):OpR X (compareOp .NotEq) pX:=by
  intro pins s σ H x y v u Q I rx ry h
  obtain ⟨a,xs,b,rfl,ha,rfl,hb,q⟩:=h
  cases rx; cases ry
  obtain ⟨_,its,m,rv,e1⟩:=(show bd X.prog X.w H s.heap a (.lst xs) from I.hok a _ ha)
  obtain ⟨_,its',m',rv',e1'⟩:=(show bd X.prog X.w H s.heap b (.lst []) from I.hok b _ hb)
  cases rv'
  have i1:s.heap.IsList a its.toArray:=⟨_,e1,rfl,m,rfl⟩
  have i2:s.heap.IsList b ([]:List Value).toArray:=⟨_,e1',rfl,m',rfl⟩
  cases rv with
  | nil =>
    have z:=SeqAt.RcNeAt.lists (A:=X.A) (e:=fun _=>true) i1 i2 rfl (by exact rh hu) (fun j j1 j2=>absurd j1 (Nat.not_lt_zero _))
    exact z _ _ _ _ ⟨.bl false,H,I,rfl,q⟩
  | cons r t=>exact SeqAt.RcNeAt.lists_lengths i1 i2 (by simp) (by exact rh hu) _ _ _ _ ⟨.bl true,H,I,rfl,q⟩
theorem qL (hu:X.A.units + 64 < cLine):OpR X (compareOp .Eq) q_:=by
  intro pins s σ H x y v u Q I rx ry h
  obtain ⟨a,xs,b,rfl,ha,rfl,hb,q⟩:=h
  cases rx; cases ry
  obtain ⟨_,its,m,rv,e1⟩:=(show bd X.prog X.w H s.heap a (.lst xs) from I.hok a _ ha)
  obtain ⟨_,its',m',rv',e1'⟩:=(show bd X.prog X.w H s.heap b (.lst []) from I.hok b _ hb)
  cases rv'
  have i1:s.heap.IsList a its.toArray:=⟨_,e1,rfl,m,rfl⟩
  have i2:s.heap.IsList b ([]:List Value).toArray:=⟨_,e1',rfl,m',rfl⟩
  cases rv with
  | nil =>
    have z:=SeqAt.RcAt.lists (A:=X.A) (e:=fun _=>true) i1 i2 rfl (by exact rh hu) (fun j j1 j2=>absurd j1 (Nat.not_lt_zero _))
    exact z _ _ _ _ ⟨.bl true,H,I,rfl,q⟩
  | cons r t=>exact SeqAt.RcAt.lists_lengths i1 i2 (by simp) (by exact rh hu) _ _ _ _ ⟨.bl false,H,I,rfl,q⟩
def p_:D → D → (D → Prop) → Prop:=fun a b q=>match a,b with
  | .lst ds,.lst []=>q (.bl (!ds.isEmpty))
  | _,_=>False
def pV:D → D → (D → Prop) → Prop:=fun a b q=>match a,b with
  | .lst ds,.lst []=>q (.bl ds.isEmpty)
  | _,_=>False
theorem k_ {G:Hp}:∀ {ds:List D} {xs:List V},Reps G ds xs → xs.isEmpty = ds.isEmpty
  | [],xs,h=>by rw [Reps] at h; subst h; rfl
  | d :: ds,xs,h=>by rw [Reps] at h; obtain ⟨v,vs,rfl,_,_⟩:=h; rfl
theorem wG:DOp pX p_:=fun G H x y dx dy q Q s p1 p2 hf k=>by
  unfold p_ at hf
  split at hf
  · obtain ⟨a,xs,rfl,h1,h2⟩:=a6 p1
    obtain ⟨b,ys,rfl,h3,h4⟩:=a6 p2
    rw [Reps] at h4; subst h4
    exact ⟨a,xs,b,rfl,s _ _ h1,rfl,s _ _ h3,by rw [k_ h2]; exact k _ _ hf (bS _)⟩
  · exact hf.elim
theorem wS:DOp q_ pV:=fun G H x y dx dy q Q s p1 p2 hf k=>by
  unfold pV at hf
  split at hf
  · obtain ⟨a,xs,rfl,h1,h2⟩:=a6 p1
    obtain ⟨b,ys,rfl,h3,h4⟩:=a6 p2
    rw [Reps] at h4; subst h4
    exact ⟨a,xs,b,rfl,s _ _ h1,rfl,s _ _ h3,by rw [k_ h2]; exact k _ _ hf (bS _)⟩
  · exact hf.elim
end
section
open AutoSeq1 (wpAny_loadPart')
open MeetsSeq MeetsSeq2 MeetsSeq3
theorem eJ (b:Str) (u:Tok) (l:Addr) (es:Array DictEntry) (ep:Nat) (dd:Option Addr) (sl:Array (Option Value)) :
    Meets (Builtin.«str.__ne__» ⟨[.str b u,.ref l],[]⟩) (fun _ R s=>s.heap.get? l = some { cls:=.type "dict",dict:=dd,data:=.dict es ep,slots:=sl } ∧ R (.ok (.ret .notImplemented)) s) :=
  .of_wp fun prog w A R s h=>by obtain ⟨hp,g,d,tk,os⟩:=s; obtain ⟨hl,h⟩:=h; have f1:=PySem.F.sub_dict_str; wp_walk using wpAny_loadPart' hl,wpAny_load hl; exact ⟨_,rfl,h⟩
end
section
variable {prog:Program} {w:World} {A:Around} {E:Value → Shared → Prop} {s:Shared}
theorem lO {a:Addr} {b:Str} {u:Tok} {ka:List (Key × Value)} {Q:Value → Shared → Prop} (da:s.heap.DictOf (bL prog w) a ka) (hu:A.units < cLine) (h:Q (.bool true) s) :
    wpAny (model prog w) A (compareOp .NotEq (.ref a) (.str b u)) Q E s:=by
  obtain ⟨⟨cls,dd,data,sl⟩,es,ep,ho,hx,hd,_⟩:=id da
  have hc:=hx.1
  simp only at hc hd
  subst hc hd
  refine SeqAt.rc_ne_decline_or (k:=false) da.typeIs (typeIs_str s b u) (by decide) PySem.F.sub_str_dict PySem.F.slot_dict_ne PySem.F.slot_str_ne_refl (fun _ hq=>?_) (fun _ hq=>call_meets PySem.F.slot_str_ne_refl (typeIs_str s b u) PySem.F.entry_str_ne (PySem.F.args_str_ne_2 _ _) (eJ b u a es ep dd sl) ⟨ho,hq⟩)
    (fun _ hq=>wpAny_of_eq (rfl:isSame (.ref a) (.str b u) = pure false) hq) (.inr hu) h
  refine wpAny_call_entry PySem.F.slot_dict_ne da.typeIs PySem.F.entry_dict_ne ?_ (PySem.F.args_dict_ne_2 _ _)
  show wpAny _ _ (Builtin.Dict.dictSlotArgs "__ne__" ⟨[.ref a,.str b u],[]⟩ >>= _) _ _ s
  refine wpAny_bind ?_
  unfold Builtin.Dict.dictSlotArgs
  refine wpAny_bind (wpAny_notOrdered_dict da.typeIs ?_)
  show wpAny _ _ (pure (Value.ref a,Value.str b u)) _ _ s
  refine wpAny_pure ?_
  refine wpAny_bind (wpAny_isInstance (T:="str") (typeIs_str s b u) PySem.F.sub_str_dict ?_)
  simp only [Bool.not_false,if_true]
  refine wpAny_bind (wpAny_rule ?_)
  exact wpAny_pure ⟨_,rfl,hq⟩
end
section
variable {X:Cx}
def okT (d:D):Prop:=okD d = true ∨ d = .dic [] []
def rNeT:R2:=fun x y H Q=>∃ d t,Rep H d x ∧ okT d ∧ okD (.str t) = true ∧ y = .str t ∧ Q (.bl (!eqD d (.str t))) H
theorem qT (hu:X.A.units + 64 < cLine):OpR X (compareOp .NotEq) rNeT:=by
  intro pins s σ H x y v u Q I rx ry h
  obtain ⟨d,t,h1,ok,ot,rfl,q⟩:=h
  rcases ok with ok | rfl
  · exact ci hu pins s σ H x _ v u Q I rx ry ⟨d,.str t,h1,nU _,ok,ot,q⟩
  · rw [Rep] at h1
    obtain ⟨a,xs,rfl,ha,_,hx⟩:=h1
    cases rx
    obtain ⟨k,rfl⟩:=ry
    obtain ⟨_,z1,vs,k1,d1⟩:=(show bd X.prog X.w H s.heap a (.dK []) from I.hok a _ ha)
    exact lO d1 (by exact rh hu) ⟨.bl true,H,I,rfl,q⟩
theorem dNeT:DOp rNeT (fun a b q=>∃ t,okT a ∧ okD (.str t) = true ∧ b = .str t ∧ q (.bl (!eqD a (.str t)))):=fun G H x y dx dy q Q s p1 p2 hf k=>by
  obtain ⟨t,ok,ot,rfl,hq⟩:=hf
  rw [Rep] at p2
  exact ⟨dx,t,Rep.mono s _ _ p1,ok,ot,p2,k _ _ hq (bS _)⟩
end
section
variable {X:Cx} {ow:List Bool} {pos p1 p2 p3 p4:Pos} {j1 j2 j3 j4:Nat}
end
end L2
namespace L2
open PySem
inductive Sides (ps:List Int):Int → Int → List Int → List Int → Int → Prop
  | same (a:Int):Sides ps a a [] [] a
  | left {a b m:Int} {u d:List Int} (h:b < a):Sides ps (bO ps a) b u d m → Sides ps a b (a :: u) d m
  | right {a b m:Int} {u d:List Int} (h:a < b):Sides ps a (bO ps b) u d m → Sides ps a b u (b :: d) m
theorem Sides.climb {ps:List Int} {a b m:Int} {u d:List Int} (h:Sides ps a b u d m):∃ w,Climb ps a b w m ∧ w.Perm (u ++ d):=by
  induction h with
  | same a=>exact ⟨[],.same a,List.Perm.refl _⟩
  | @left a b m u d h _ ih =>
    obtain ⟨w,h1,h2⟩:=ih
    exact ⟨a :: w,.left h h1.comm,h2.cons a⟩
  | @right a b m u d h _ ih =>
    obtain ⟨w,h1,h2⟩:=ih
    exact ⟨b :: w,.right h h1,(h2.cons b).trans List.perm_middle.symm⟩
theorem Sides.up {ps rs:List Int} (hT:Tree ps rs) {a b m:Int} {u d:List Int} (h:Sides ps a b u d m) : 0 ≤ a → 0 ≤ b → a ≤ ps.length → b ≤ ps.length → Climb ps a m u m:=by
  induction h with
  | same a=>intro _ _ _ _; exact .same a
  | @left a b m u d h hs ih =>
    intro a0 b0 a1 b1
    have hp:=hT.up (k:=a) (by exact o8 h a0 b0) a1
    obtain ⟨w,h1,_⟩:=hs.climb
    have hl:=h1.low hT hp.1 b0 (by exact zo0 a1 hp) b1
    exact .left (by exact zo302 h hl) (ih hp.1 b0 (by exact zo0 a1 hp) b1).comm
  | @right a b m u d h hs ih =>
    intro a0 b0 a1 b1
    have hp:=hT.up (k:=b) (by exact oQ h a0 b0) b1
    exact ih a0 hp.1 a1 (by exact zo0 b1 hp)
def upW (ps:List Int) (a b:Int):List Int:=gt ps 100 a (ng ps a b)
theorem Climb.upW {ps rs:List Int} (hT:Tree ps rs) {a b m:Int} {u:List Int} (a0 : 0 ≤ a) (a1:a ≤ ps.length) (m0 : 0 ≤ m) (m1:m ≤ ps.length) (hm:m = ng ps a b) (h:Climb ps a m u m):u = L2.upW ps a b:=by
  have hi:=hT.hi
  unfold L2.upW
  rw [← hm]
  exact (h.det (ez hT 100 a m (by exact zo123 a1 m1 hm hi) a0 m0 a1 m1)).1
structure SideOk (ps:List Int) (a b:Int) (u d:List Int):Prop where
  eu:u = upW ps a b
  pm:(b5 ps a b).Perm (u ++ d)
theorem Sides.ok {ps rs:List Int} (hT:Tree ps rs) {a b m:Int} {u d:List Int} (h:Sides ps a b u d m) (a0 : 0 ≤ a) (b0 : 0 ≤ b) (a1:a ≤ ps.length) (b1:b ≤ ps.length):SideOk ps a b u d:=by
  obtain ⟨w,h1,h2⟩:=h.climb
  have hw:=h1.way hT a0 b0 a1 b1
  have hl:=h1.low hT a0 b0 a1 b1
  exact ⟨(h.up hT a0 b0 a1 b1).upW hT a0 a1 hl.1 (by (first|lia|omega)) hw.2,by rw [← hw.1]; exact (bJ w).trans h2⟩
theorem Sides.comm {ps:List Int} {a b m:Int} {u d:List Int} (h:Sides ps a b u d m):Sides ps b a d u m:=by
  induction h with
  | same a=>exact .same a
  | left h _ ih=>exact .right h ih
  | right h _ ih=>exact .left h ih
theorem Climb.sides {ps:List Int} {a b m:Int} {w:List Int} (h:Climb ps a b w m):∃ u d,Sides ps a b u d m:=by
  induction h with
  | same a=>exact ⟨_,_,.same a⟩
  | left h _ ih=>obtain ⟨u,d,s⟩:=ih; exact ⟨_,_,.left h s.comm⟩
  | right h _ ih=>obtain ⟨u,d,s⟩:=ih; exact ⟨_,_,.right h s⟩
def txt (b:Bool):Str:=if b = true then "up" else "down"
def dTx (bs:List Bool):D:=.lst (bs.map fun b=>.str (txt b))
theorem d_ (b:Bool):okD (.str (txt b)) = true:=by cases b <;> exact fT (by decide +kernel)
theorem lX (b c:Bool):eqD (.str (txt b)) (.str (txt c)) = (b == c):=by rw [gI]; cases b <;> cases c <;> decide +kernel
def alB (ps:List Int) (a b:Int) (bs:List Bool) (t:Int):Bool:=bs.getD (t - 1).toNat false == (upW ps a b).contains t
def de (ps:List Int) (a b:Int) (bs:List Bool):Bool:=(b5 ps a b).all (alB ps a b bs) || !((b5 ps a b).any (alB ps a b bs))
def txB:D → Bool
  | .str x=>x == "up" || x == "down"
  | _=>false
def j5:D → Bool
  | .str x=>x == "up"
  | _=>false
def mG (ps:List Int) (as:List Ask):D → Bool
  | .lst ds=>decide (ds.length = ps.length) && (ds.all txB && as.all fun a=>de ps a.one a.other (ds.map j5))
  | _=>false
theorem tx_of {d:D} (h:txB d = true):d = .str (txt (j5 d)):=by
  cases d with
  | str x =>
    unfold txB at h
    rw [Bool.or_eq_true] at h
    show D.str x = .str (txt (x == "up"))
    rcases h with h | h
    · rw [h]; rw [eq_of_beq h]; rfl
    · rw [eq_of_beq h]; congr 1
  | _=>cases h
theorem vv:∀ {ds:List D},ds.all txB = true → D.lst ds = dTx (ds.map j5):=by
  intro ds h
  unfold dTx
  congr 1
  rw [List.map_map]
  induction ds with
  | nil=>rfl
  | cons d ds ih =>
    rw [List.all_cons,Bool.and_eq_true] at h
    rw [List.map_cons,← ih h.2]
    congr 1
    exact tx_of h.1
theorem nD {bs:List Bool} {t:Int} (h0 : 0 < t) (h1:t ≤ bs.length):atI (bs.map fun b=>D.str (txt b)) (t - 1) = some (.str (txt (bs.getD (t - 1).toNat false))):=by
  have e:t - 1 = (((t - 1).toNat:Nat):Int):=by exact zo181 h0
  have h:(bs.map fun b=>D.str (txt b))[(t - 1).toNat]? = some (.str (txt (bs.getD (t - 1).toNat false))):=by
    rw [List.getElem?_map,List.getD_eq_getElem?_getD,List.getElem?_eq_getElem (by exact zo312 h1 e)]; rfl
  have:=eZ h
  rw [← e] at this
  exact this
def alL (bs:List Bool) (u d:List Int):List Bool:=u.map (fun t=>bs.getD (t - 1).toNat false == true) ++ d.map (fun t=>bs.getD (t - 1).toNat false == false)
theorem xj {ps rs:List Int} {a b:Int} {u d:List Int} {bs:List Bool} (hT:Tree ps rs) (he:Ends2 ps a b) (h:SideOk ps a b u d):alL bs u d = (u ++ d).map (alB ps a b bs):=by
  have hn:(u ++ d).Nodup:=h.pm.nodup_iff.mp (gm hT he)
  rw [List.nodup_append] at hn
  unfold alL
  rw [List.map_append]
  congr 1
  · refine List.map_congr_left fun t ht=>?_
    unfold alB
    rw [← h.eu,List.contains_iff_mem.mpr ht]
  · refine List.map_congr_left fun t ht=>?_
    unfold alB
    have:u.contains t = false:=by
      rw [Bool.eq_false_iff]; intro hc
      exact hn.2.2 t (List.contains_iff_mem.mp hc) t ht rfl
    rw [← h.eu,this]
theorem pq:∀ L:List Bool,(decide (L.count true = 0) || decide (L.count true = L.length)) = (L.all id || !L.any id):=by
  intro L
  have h1:L.count true = L.length ↔ L.all id = true:=by
    rw [List.count_eq_length,List.all_eq_true]
    exact ⟨fun h b hb=>(h b hb).symm,fun h b hb=>(h b hb).symm⟩
  have h0:L.count true = 0 ↔ L.any id = false:=by
    rw [List.count_eq_zero]
    constructor
    · intro h; rw [Bool.eq_false_iff]; intro hc
      obtain ⟨b,hb,e⟩:=List.any_eq_true.mp hc
      cases b with
      | true=>exact h hb
      | false=>cases e
    · intro h hm
      have:L.any id = true:=List.any_eq_true.mpr ⟨true,hm,rfl⟩
      rw [h] at this; cases this
  rw [Bool.eq_iff_iff,Bool.or_eq_true,Bool.or_eq_true,decide_eq_true_iff,decide_eq_true_iff,h1,h0,Bool.not_eq_true']
  exact Or.comm
theorem sU {ps rs:List Int} {a b:Int} {u d:List Int} {bs:List Bool} (hT:Tree ps rs) (he:Ends2 ps a b) (h:SideOk ps a b u d):((alL bs u d).all id || !(alL bs u d).any id) = de ps a b bs:=by
  rw [xj hT he h]
  unfold de
  rw [List.all_map,List.any_map]
  have e1:(u ++ d).all (id ∘ alB ps a b bs) = (b5 ps a b).all (alB ps a b bs):=by
    rw [Bool.eq_iff_iff,List.all_eq_true,List.all_eq_true]
    exact ⟨fun z t ht=>z t (h.pm.mem_iff.mp ht),fun z t ht=>z t (h.pm.mem_iff.mpr ht)⟩
  have e2:(u ++ d).any (id ∘ alB ps a b bs) = (b5 ps a b).any (alB ps a b bs):=by
    rw [Bool.eq_iff_iff,List.any_eq_true,List.any_eq_true]
    exact ⟨fun ⟨t,ht,z⟩=>⟨t,h.pm.mem_iff.mpr ht,z⟩,fun ⟨t,ht,z⟩=>⟨t,h.pm.mem_iff.mp ht,z⟩⟩
  rw [e1,e2]
def iy (ps:List Int) (a b:Int):Bool:=@decide (∃ u,Up ps (bO ps a) u ∧ b ∈ u) (Classical.propDecidable _)
theorem gX {ps:List Int} {a b:Int} {u:List Int} (h:Up ps (bO ps a) u):u.contains b = iy ps a b:=by
  unfold iy
  rw [Bool.eq_iff_iff,List.contains_iff_mem,@decide_eq_true_iff _ (Classical.propDecidable _)]
  exact ⟨fun m=>⟨u,h,m⟩,fun ⟨v,hv,m⟩=>by rw [h.det hv]; exact m⟩
def aF (ps:List Int) (a b:Int):Bool:=!iy ps a b && !iy ps b a
def df (n m:Nat):D → Bool
  | .tup [t,k]=>btw 1 n t && btw 0 ((m:Int) - 1) k
  | _=>false
def cN (ps:List Int) (as:List Ask) (a b k:Int):Bool:=!decide (a = b) && ((bp ps (jR as k)).contains a && (bp ps (jR as k)).contains b)
def fb:D → Int × Int
  | .tup [.int t,.int k]=>(t,k)
  | _=>(0,0)
def dLk (l:Int × Int):D:=.tup [.int l.1,.int l.2]
def nth (ls:List (Int × Int)) (j:Nat):Int × Int:=ls.getD j (0,0)
def eQ (ps:List Int) (as:List Ask) (ls:List (Int × Int)) (j:Nat):Bool:=cN ps as (nth ls j).1 (nth ls ((j + 1) % ls.length)).1 (nth ls j).2
def apT (ps:List Int) (ls:List (Int × Int)) (j:Nat):Bool:=aF ps (nth ls j).1 (nth ls ((j + 1) % ls.length)).1
def eM (ps:List Int) (ls:List (Int × Int)) (i:Nat):Nat:=((List.range i).filter (apT ps ls)).length
def du (ps:List Int) (as:List Ask) (ls:List (Int × Int)):Bool:=(List.range ls.length).all (eQ ps as ls) && decide (eM ps ls ls.length % 2 = 1)
def iI (ps:List Int) (as:List Ask):D → Bool
  | .lst ds=>(decide (3 ≤ ds.length) && decide (ds.length ≤ 61)) && (ds.all (df ps.length as.length) && du ps as (ds.map fb))
  | _=>false
theorem fK (ps:List Int) (ls:List (Int × Int)) (i:Nat):eM ps ls (i + 1) = eM ps ls i + (if apT ps ls i = true then 1 else 0):=by
  unfold eM
  rw [List.range_succ,List.filter_append,List.length_append]
  by_cases h:apT ps ls i = true
  · rw [if_pos h,List.filter_cons,if_pos h]; rfl
  · rw [if_neg h,List.filter_cons,if_neg h]; rfl
theorem tO {ps:List Int} {as:List Ask} {ls:List (Int × Int)} {i:Nat} (hi:i < ls.length) (h:eQ ps as ls i = false):du ps as ls = false:=by
  unfold du
  have:(List.range ls.length).all (eQ ps as ls) = false:=by
    rw [List.all_eq_false]; exact ⟨i,List.mem_range.mpr hi,by rw [h]; decide⟩
  rw [this]; rfl
theorem lI {ps:List Int} {as:List Ask} {ls:List (Int × Int)} (h:∀ j,j < ls.length → eQ ps as ls j = true):du ps as ls = decide (eM ps ls ls.length % 2 = 1):=by
  unfold du
  have:(List.range ls.length).all (eQ ps as ls) = true:=by
    rw [List.all_eq_true]; exact fun j hj=>h j (List.mem_range.mp hj)
  rw [this,Bool.true_and]
structure LkOk (n m:Nat) (l:Int × Int):Prop where
  t0 : 1 ≤ l.1
  t1:l.1 ≤ (n:Int)
  k0 : 0 ≤ l.2
  k1:l.2 < (m:Int)
theorem sW {n m:Nat} {d:D} (h:df n m d = true):d = dLk (fb d) ∧ LkOk n m (fb d):=by
  unfold df at h
  split at h
  · rename_i t k
    rw [Bool.and_eq_true] at h
    obtain ⟨x,rfl,x0,x1⟩:=jm h.1
    obtain ⟨y,rfl,y0,y1⟩:=jm h.2
    exact ⟨rfl,x0,x1,y0,by show y < _; exact zo348 y1⟩
  · cases h
theorem hZ {n m:Nat}:∀ {ds:List D},ds.all (df n m) = true → ds = (ds.map fb).map dLk ∧ ∀ l ∈ ds.map fb,LkOk n m l
  | [],_=>⟨rfl,fun l h=>by cases h⟩
  | d :: ds,h=>by
    rw [List.all_cons,Bool.and_eq_true] at h
    obtain ⟨e1,o1⟩:=sW h.1
    obtain ⟨e2,o2⟩:=hZ h.2
    refine ⟨by rw [List.map_cons,List.map_cons,← e1,← e2],fun l hl=>?_⟩
    rcases List.mem_cons.mp hl with rfl | hl
    · exact o1
    · exact o2 l hl
theorem l6 (ls:List (Int × Int)):(ls.map dLk).map fb = ls:=by
  rw [List.map_map]
  have:(fb ∘ dLk) = id:=by funext l; rfl
  rw [this,List.map_id]
theorem ij {ls:List (Int × Int)} {j:Nat} (h:j < ls.length):ls[j]? = some (nth ls j):=by
  unfold nth; rw [List.getD_eq_getElem?_getD,List.getElem?_eq_getElem h]; rfl
theorem ky {ls:List (Int × Int)} {j:Nat} (h:j < ls.length):nth ls j ∈ ls:=List.mem_of_getElem? (ij h)
theorem lL {ps rs:List Int} (hT:Tree ps rs) {a x y:Int} {ua:List Int} (a1:a ≤ ps.length) (h:Up ps a ua) (hx:x ∈ ua) (hy:y ∈ ua) (x0 : 0 < x) (y0 : 0 < y) (e:x ≠ y):aF ps x y = false:=by
  have key:∀ {x y:Int},x ∈ ua → y ∈ ua → x < y → 0 < y → iy ps y x = true:=fun {x y} hx hy hlt y0=>by
    obtain ⟨uy,h1,h2,_⟩:=h.chain hT a1 hx hy (by exact zo317 hlt)
    cases h1 with
    | zero=>(first|lia|omega)
    | step h0 hu =>
      rw [← gX hu]
      rcases List.mem_cons.mp h2 with z | z
      · (first|lia|omega)
      · exact List.contains_iff_mem.mpr z
  unfold aF
  by_cases hlt:x < y
  · rw [key hx hy hlt y0]; simp
  · rw [key hy hx (by exact zo269 e hlt) x0]; rfl
theorem e5 {ps rs:List Int} (hT:Tree ps rs) {a x y:Int} {ua:List Int} (a1:a ≤ ps.length) (h:Up ps a ua) (hx:x ∈ ua) (hy : ¬ y ∈ ua) (x0 : 0 < x):iy ps x y = false:=by
  obtain ⟨ux,h1,_,h3⟩:=h.chain hT a1 hx hx (Int.le_refl _)
  cases h1 with
  | zero=>(first|lia|omega)
  | step h0 hu =>
    rw [← gX hu,Bool.eq_false_iff]
    intro hc
    exact hy (h3 y (.tail _ (List.contains_iff_mem.mp hc)))
theorem Sides.inUp {ps rs:List Int} (hT:Tree ps rs) {a b m:Int} {u d:List Int} (h:Sides ps a b u d m):∀ {ua ub:List Int},Up ps a ua → Up ps b ub → 0 ≤ a → 0 ≤ b → a ≤ ps.length → b ≤ ps.length → (∀ x ∈ u,x ∈ ua) ∧ ∀ y ∈ d,y ∈ ub:=by
  induction h with
  | same a=>intro ua ub _ _ _ _ _ _; exact ⟨fun x h=>(by cases h),fun x h=>(by cases h)⟩
  | @left a b m u d h _ ih =>
    intro ua ub hua hub a0 b0 a1 b1
    cases hua with
    | zero=>(first|lia|omega)
    | step h0 hu =>
      obtain ⟨i1,i2⟩:=ih hu hub (hT.up h0 a1).1 b0 (by have:=(hT.up h0 a1).2; exact uc a1 this) b1
      exact ⟨fun x hx=>(List.mem_cons.mp hx).elim (fun z=>by rw [z]; exact .head _) fun z=>.tail _ (i1 x z),i2⟩
  | @right a b m u d h _ ih =>
    intro ua ub hua hub a0 b0 a1 b1
    cases hub with
    | zero=>(first|lia|omega)
    | step h0 hu =>
      obtain ⟨i1,i2⟩:=ih hua hu a0 (hT.up h0 b1).1 a1 (by have:=(hT.up h0 b1).2; exact uc b1 this)
      exact ⟨i1,fun y hy=>(List.mem_cons.mp hy).elim (fun z=>by rw [z]; exact .head _) fun z=>.tail _ (i2 y z)⟩
theorem kN {ps rs:List Int} (hT:Tree ps rs) {a b t:Int} {ua ub:List Int} (he:Ends2 ps a b) (hua:Up ps a ua) (hub:Up ps b ub) (ht:t ∈ b5 ps a b):(upW ps a b).contains t = ua.contains t ∧ ub.contains t = !ua.contains t:=by
  obtain ⟨w,hw,ew⟩:=gJ hT he.a0 he.b0 he.a1 he.b1
  have hx:=sB (t:=t) hT he.a0 he.a1 he.b0 he.b1 hw hua hub
  rw [← ew,List.contains_iff_mem.mpr ht] at hx
  have h2:ub.contains t = !ua.contains t:=by revert hx; cases ua.contains t <;> cases ub.contains t <;> decide
  refine ⟨?_,h2⟩
  obtain ⟨u,d,hs⟩:=hw.sides
  have ho:=hs.ok hT he.a0 he.b0 he.a1 he.b1
  obtain ⟨i1,i2⟩:=hs.inUp hT hua hub he.a0 he.b0 he.a1 he.b1
  rw [← ho.eu]
  have hm:=ho.pm.mem_iff.mp ht
  cases e:ua.contains t with
  | true =>
    rcases List.mem_append.mp hm with z | z
    · exact List.contains_iff_mem.mpr z
    · have:=List.contains_iff_mem.mpr (i2 t z); rw [h2,e] at this; cases this
  | false =>
    rw [Bool.eq_false_iff]; intro hc
    have:=List.contains_iff_mem.mpr (i1 t (List.contains_iff_mem.mp hc)); rw [e] at this; cases this
theorem oD {ps rs:List Int} (hT:Tree ps rs) {a b x y:Int} (he:Ends2 ps a b) (hx:x ∈ b5 ps a b) (hy:y ∈ b5 ps a b) (e:x ≠ y):aF ps x y = ((upW ps a b).contains x != (upW ps a b).contains y):=by
  obtain ⟨ua,hua⟩:=Up.all hT _ a rfl he.a0 he.a1
  obtain ⟨ub,hub⟩:=Up.all hT _ b rfl he.b0 he.b1
  obtain ⟨x1,x2⟩:=kN hT he hua hub hx
  obtain ⟨y1,y2⟩:=kN hT he hua hub hy
  have x0:=(cD hT he hx).1
  have y0:=(cD hT he hy).1
  rw [x1,y1]
  cases ex:ua.contains x with
  | true =>
    have mx:=List.contains_iff_mem.mp ex
    cases ey:ua.contains y with
    | true=>exact lL hT he.a1 hua mx (List.contains_iff_mem.mp ey) x0 y0 e
    | false =>
      rw [ey] at y2
      rw [ex] at x2
      have my:=List.contains_iff_mem.mp y2
      have nx : ¬ x ∈ ub:=fun z=>by rw [List.contains_iff_mem.mpr z] at x2; cases x2
      have ny : ¬ y ∈ ua:=fun z=>by rw [List.contains_iff_mem.mpr z] at ey; cases ey
      unfold aF
      rw [e5 hT he.a1 hua mx ny x0,e5 hT he.b1 hub my nx y0]; rfl
  | false =>
    rw [ex] at x2
    have mx:=List.contains_iff_mem.mp x2
    cases ey:ua.contains y with
    | false =>
      rw [ey] at y2
      exact lL hT he.b1 hub mx (List.contains_iff_mem.mp y2) x0 y0 e
    | true =>
      rw [ey] at y2
      have my:=List.contains_iff_mem.mp ey
      have nx : ¬ x ∈ ua:=fun z=>by rw [List.contains_iff_mem.mpr z] at ex; cases ex
      have ny : ¬ y ∈ ub:=fun z=>by rw [List.contains_iff_mem.mpr z] at y2; cases y2
      unfold aF
      rw [e5 hT he.b1 hub mx ny x0,e5 hT he.a1 hua my nx y0]; rfl
def wd (bs:List Bool) (t:Int):Bool:=bs.getD (t - 1).toNat false
theorem jZ {ps rs:List Int} (hT:Tree ps rs) {a b x y:Int} {bs:List Bool} (he:Ends2 ps a b) (hx:x ∈ b5 ps a b) (hy:y ∈ b5 ps a b) (e:x ≠ y):alB ps a b bs x = alB ps a b bs y ↔ (wd bs x != wd bs y) = aF ps x y:=by
  rw [oD hT he hx hy e]
  unfold alB wd
  generalize bs.getD (x - 1).toNat false = p
  generalize bs.getD (y - 1).toNat false = q
  cases p <;> cases q <;> cases (upW ps a b).contains x <;> cases (upW ps a b).contains y <;> decide
theorem jd {ps:List Int} {a b:Int} {bs:List Bool}:de ps a b bs = true ↔ ∀ x ∈ b5 ps a b,∀ y ∈ b5 ps a b,alB ps a b bs x = alB ps a b bs y:=by
  unfold de
  rw [Bool.or_eq_true,Bool.not_eq_true',List.all_eq_true,List.any_eq_false]
  constructor
  · rintro (h | h) x hx y hy
    · rw [h x hx,h y hy]
    · rw [Bool.eq_false_iff.mpr (h x hx),Bool.eq_false_iff.mpr (h y hy)]
  · intro h
    by_cases hc:∃ x ∈ b5 ps a b,alB ps a b bs x = true
    · obtain ⟨x,hx,e⟩:=hc
      exact .inl fun y hy=>by rw [h y hy x hx,e]
    · exact .inr fun y hy z=>hc ⟨y,hy,z⟩
theorem gi {ps rs:List Int} (hT:Tree ps rs) {a b:Int} {bs:List Bool} (he:Ends2 ps a b):de ps a b bs = true ↔ ∀ x ∈ b5 ps a b,∀ y ∈ b5 ps a b,x ≠ y → (wd bs x != wd bs y) = aF ps x y:=by
  rw [jd]
  constructor
  · intro h x hx y hy e
    exact (jZ hT he hx hy e).mp (h x hx y hy)
  · intro h x hx y hy
    by_cases e:x = y
    · rw [e]
    · exact (jZ hT he hx hy e).mpr (h x hx y hy e)
theorem gx {α β:Type} (f : α → β):∀ {w:List α},(∀ p ∈ w.zip (w.drop 1),f p.1 = f p.2) → ∀ x ∈ w,∀ y ∈ w,f x = f y
  | [],_,x,hx,_,_=>by cases hx
  | [a],_,x,hx,y,hy=>by rw [List.mem_singleton.mp hx,List.mem_singleton.mp hy]
  | a :: b :: w,h,x,hx,y,hy=>by
    have ih:=gx f (w:=b :: w) fun p hp=>h p (.tail _ hp)
    have hab:f a = f b:=h (a,b) (.head _)
    have all:∀ z ∈ a :: b :: w,f z = f b:=fun z hz=>(List.mem_cons.mp hz).elim (fun e=>by rw [e]; exact hab) fun e=>ih z e b (.head _)
    rw [all x hx,all y hy]
theorem fF {α:Type} {w:List α} {p : α × α} (h:p ∈ w.zip (w.drop 1)):p.1 ∈ w ∧ p.2 ∈ w:=by
  have:=List.of_mem_zip (show (p.1,p.2) ∈ w.zip (w.drop 1) from h)
  exact ⟨this.1,List.mem_of_mem_drop this.2⟩
theorem nj {w:List Int} (hn:w.Nodup):∀ {p:Int × Int},p ∈ w.zip (w.drop 1) → p.1 ≠ p.2:=by
  intro p hp
  obtain ⟨j,hj⟩:=List.getElem?_of_mem hp
  rw [List.getElem?_zip_eq_some,List.getElem?_drop] at hj
  intro e
  have h1:=List.getElem?_eq_some_iff.mp hj.1
  have h2:=List.getElem?_eq_some_iff.mp hj.2
  obtain ⟨l1,e1⟩:=h1
  obtain ⟨l2,e2⟩:=h2
  have:=(List.getElem_inj (h₀:=l1) (h₁:=l2) hn).mp (by rw [e1,e2]; exact e)
  exact zo365 l1 l2 this
theorem o9 {ps rs:List Int} (hT:Tree ps rs) {a b:Int} {bs:List Bool} (he:Ends2 ps a b) (h:∀ p ∈ (b5 ps a b).zip ((b5 ps a b).drop 1),(wd bs p.1 != wd bs p.2) = aF ps p.1 p.2):de ps a b bs = true:=by
  rw [jd]
  refine gx _ fun p hp=>?_
  have hm:=fF hp
  exact (jZ hT he hm.1 hm.2 (nj (gm hT he) hp)).mpr (h p hp)
theorem rK {ps rs:List Int} {as:List Ask} {ls:List (Int × Int)} {bs:List Bool} (hT:Tree ps rs) (ha:AsksOk ps as) (hl : 0 < ls.length) (hk:∀ l ∈ ls,LkOk ps.length as.length l) (hr:du ps as ls = true) (hp:∀ a ∈ as,de ps a.one a.other bs = true):False:=by
  unfold du at hr
  rw [Bool.and_eq_true,List.all_eq_true] at hr
  have key:∀ j,j < ls.length → apT ps ls j = (wd bs (nth ls j).1 != wd bs (nth ls ((j + 1) % ls.length)).1):=fun j hj=>by
    have hs:=hr.1 j (List.mem_range.mpr hj)
    unfold eQ cN at hs
    rw [Bool.and_eq_true,Bool.and_eq_true] at hs
    have lk:=hk _ (ky hj)
    have k0:=lk.k0; have k1:=lk.k1
    have hm:jR as (nth ls j).2 ∈ as:=lH (as:=as) (k:=(nth ls j).2.toNat) (by exact zo7 k0 k1)
    have he:=(ha.ok _ hm).ends
    have:=(gi hT he).mp (hp _ hm) _ (List.contains_iff_mem.mp hs.2.1) _ (List.contains_iff_mem.mp hs.2.2) (by simpa using hs.1)
    exact this.symm
  have cnt:∀ i,i ≤ ls.length → eM ps ls i % 2 = if (wd bs (nth ls 0).1 != wd bs (nth ls (i % ls.length)).1) = true then 1 else 0:=by
    intro i
    induction i with
    | zero=>intro _; rw [Nat.zero_mod,bne_self_eq_false]; rfl
    | succ i ih =>
      intro hi
      rw [fK,key i (by exact qg hi)]
      have:=ih (by exact zo77 hi)
      rw [Nat.mod_eq_of_lt (show i < ls.length by exact qg hi)] at this
      generalize wd bs (nth ls 0).1 = p at this
      generalize wd bs (nth ls i).1 = q at this
      generalize wd bs (nth ls ((i + 1) % ls.length)).1 = r
      revert this
      cases p <;> cases q <;> cases r <;> simp <;> (first|lia|omega)
  have:=cnt ls.length (Nat.le_refl _)
  rw [Nat.mod_self,bne_self_eq_false,of_decide_eq_true hr.2] at this
  cases this
abbrev bw:=List (Int × Option (Int × Int))
def aV:bw → Int → Option (Option (Int × Int))
  | [],_=>none
  | (j,v) :: cs,x=>if j = x then some v else aV cs x
def rm:Option (Int × Int) → D
  | none=>.non
  | some l=>dLk l
def cI (cs:bw):List Key:=cs.map fun c=>.inl c.1
def gB (cs:bw):List D:=cs.map fun c=>rm c.2
def dj (cs:bw):D:=.dic (cI cs) (gB cs)
theorem cW {x:Int}:∀ cs:bw,b7 (cI cs) (gB cs) (.inl x) = (aV cs x).map rm
  | []=>rfl
  | (j,v) :: cs=>by
    show (if (Sum.inl j:Key) = .inl x then some (rm v) else b7 (cI cs) (gB cs) (.inl x)) = Option.map rm (if j = x then some v else aV cs x)
    rw [cW cs]
    by_cases e:j = x
    · rw [if_pos (by rw [e]),if_pos e]; rfl
    · rw [if_neg (fun z=>e (by injection z)),if_neg e]
theorem cX {x:Int}:∀ cs:bw,aN (cI cs) (.inl x) = (aV cs x).isSome
  | []=>rfl
  | (j,v) :: cs=>by
    show (if (Sum.inl j:Key) = .inl x then true else aN (cI cs) (.inl x)) = Option.isSome (if j = x then some v else aV cs x)
    rw [cX cs]
    by_cases e:j = x
    · rw [if_pos (by rw [e]),if_pos e]; rfl
    · rw [if_neg (fun z=>e (by injection z)),if_neg e]
theorem li {cs:bw} {x:Int} {v:Option (Int × Int)} (h:aV cs x = none):br (cI cs) (.inl x) = cI (cs ++ [(x,v)]) ∧ putAt (cI cs) (gB cs) (.inl x) (rm v) = gB (cs ++ [(x,v)]):=by
  have e:aN (cI cs) (.inl x) = false:=by rw [cX,h]; rfl
  unfold br putAt
  rw [e]
  unfold cI gB
  rw [List.map_append,List.map_append]
  exact ⟨rfl,rfl⟩
theorem bB {x y:Int} {v:Option (Int × Int)}:∀ {cs:bw},aV cs x = none → aV (cs ++ [(x,v)]) y = if x = y then some v else aV cs y
  | [],_=>by show (if x = y then some v else none) = _; rfl
  | (j,u) :: cs,h=>by
    have h':aV cs x = none:=by
      by_cases e:j = x
      · unfold aV at h; rw [if_pos e] at h; cases h
      · unfold aV at h; rw [if_neg e] at h; exact h
    have hj:j ≠ x:=fun e=>by unfold aV at h; rw [if_pos e] at h; cases h
    show (if j = y then some u else aV (cs ++ [(x,v)]) y) = if x = y then some v else if j = y then some u else aV cs y
    rw [bB h']
    by_cases e1:j = y
    · rw [if_pos e1,if_neg (fun z=>hj (by exact zo277 e1 z)),if_pos e1]
    · rw [if_neg e1,if_neg e1]
theorem cL {x y:Int} {v:Option (Int × Int)} {cs:bw} {u:Option (Int × Int)} (hx:aV cs x = none) (h:aV cs y = some u):aV (cs ++ [(x,v)]) y = some u:=by
  rw [bB hx,if_neg (fun z=>by rw [z,h] at hx; cases hx)]; exact h
inductive Cm (n:Nat) (E:Int → Int → Int → Prop):bw → Prop
  | nil:Cm n E []
  | root {cs:bw} {x:Int}:Cm n E cs → aV cs x = none → 1 ≤ x → x ≤ n → Cm n E (cs ++ [(x,none)])
  | link {cs:bw} {x t k:Int} {u:Option (Int × Int)}:Cm n E cs → aV cs x = none → 1 ≤ x → x ≤ n → aV cs t = some u → E x t k → Cm n E (cs ++ [(x,some (t,k))])
inductive Back (cs:bw):Int → List (Int × Int) → Int → Prop
  | root {x:Int}:aV cs x = some none → Back cs x [] x
  | step {x t k r:Int} {p:List (Int × Int)}:aV cs x = some (some (t,k)) → Back cs t p r → Back cs x ((x,k) :: p) r
theorem Back.det {cs:bw} {x r:Int} {p:List (Int × Int)} (h:Back cs x p r):∀ {p':List (Int × Int)} {r':Int},Back cs x p' r' → p = p' ∧ r = r':=by
  induction h with
  | root e=>intro p' r' h'; cases h' with
    | root _=>exact ⟨rfl,rfl⟩
    | step e2 _=>rw [e] at e2; cases e2
  | step e _ ih=>intro p' r' h'; cases h' with
    | root e2=>rw [e] at e2; cases e2
    | step e2 h2 =>
      rw [e] at e2; cases e2
      obtain ⟨a,b⟩:=ih h2
      exact ⟨by rw [a],b⟩
theorem Back.keep {cs:bw} {x y r:Int} {v:Option (Int × Int)} {p:List (Int × Int)} (hy:aV cs y = none) (h:Back cs x p r):Back (cs ++ [(y,v)]) x p r:=by
  induction h with
  | root e=>exact .root (cL hy e)
  | step e _ ih=>exact .step (cL hy e) ih
theorem Cm.rng {n:Nat} {E:Int → Int → Int → Prop} {cs:bw} (h:Cm n E cs):∀ {x:Int} {u:Option (Int × Int)},aV cs x = some u → 1 ≤ x ∧ x ≤ n:=by
  induction h with
  | nil=>intro x u h; cases h
  | root _ hn h0 h1 ih =>
    intro y u e
    rw [bB hn] at e
    split at e
    · rename_i z; exact zo98 h0 h1 z
    · exact ih e
  | link _ hn h0 h1 _ _ ih =>
    intro y u e
    rw [bB hn] at e
    split at e
    · rename_i z; exact zo98 h0 h1 z
    · exact ih e
theorem Cm.par {n:Nat} {E:Int → Int → Int → Prop} {cs:bw} (h:Cm n E cs):∀ {x t k:Int},aV cs x = some (some (t,k)) → E x t k ∧ ∃ u,aV cs t = some u:=by
  induction h with
  | nil=>intro x t k h; cases h
  | root _ hn h0 h1 ih =>
    intro y t k e
    rw [bB hn] at e
    split at e
    · cases e
    · obtain ⟨a,u,b⟩:=ih e; exact ⟨a,u,cL hn b⟩
  | @link cs x t k u _ hn h0 h1 ht hE ih =>
    intro y t' k' e
    rw [bB hn] at e
    split at e
    · rename_i z; cases e; rw [← z]; exact ⟨hE,u,cL hn ht⟩
    · obtain ⟨a,u,b⟩:=ih e; exact ⟨a,u,cL hn b⟩
theorem Cm.back {n:Nat} {E:Int → Int → Int → Prop} {cs:bw} (h:Cm n E cs):∀ {x:Int} {u:Option (Int × Int)},aV cs x = some u → ∃ p r,Back cs x p r ∧ p.length < cs.length:=by
  induction h with
  | nil=>intro x u h; cases h
  | @root cs x _ hn h0 h1 ih =>
    intro y u e
    rw [List.length_append]
    have e2:=e
    rw [bB hn] at e
    split at e
    · rename_i z; cases e
      exact ⟨[],y,.root e2,by show 0 < _ + 1; exact uH⟩
    · obtain ⟨p,r,a,b⟩:=ih e; exact ⟨p,r,a.keep hn,by exact uV b⟩
  | @link cs x t k u0 _ hn h0 h1 ht hE ih =>
    intro y u e
    rw [List.length_append]
    have e2:=e
    rw [bB hn] at e
    split at e
    · rename_i z; cases e
      obtain ⟨p,r,a,b⟩:=ih ht
      exact ⟨(y,k) :: p,r,.step e2 (a.keep hn),by show p.length + 1 < cs.length + 1; exact uv b⟩
    · obtain ⟨p,r,a,b⟩:=ih e; exact ⟨p,r,a.keep hn,by exact uV b⟩
theorem Cm.nd {n:Nat} {E:Int → Int → Int → Prop} {cs:bw} (h:Cm n E cs):(cs.map (·.1)).Nodup ∧ ∀ x ∈ cs.map (·.1),∃ u,aV cs x = some u:=by
  have snoc:∀ {cs:bw} {x:Int} {v:Option (Int × Int)},aV cs x = none → ((cs.map (·.1)).Nodup ∧ ∀ x ∈ cs.map (·.1),∃ u,aV cs x = some u) → ((cs ++ [(x,v)]).map (·.1)).Nodup ∧ ∀ y ∈ (cs ++ [(x,v)]).map (·.1),∃ u,aV (cs ++ [(x,v)]) y = some u:=by
    intro cs x v hn ih
    rw [List.map_append]
    refine ⟨List.nodup_append.mpr ⟨ih.1,by simp,fun a ha b hb z=>?_⟩,fun y hy=>?_⟩
    · have:b = x:=by simpa using hb
      obtain ⟨u,hu⟩:=ih.2 a ha
      rw [z,this,hn] at hu; cases hu
    · rcases List.mem_append.mp hy with z | z
      · obtain ⟨u,hu⟩:=ih.2 y z; exact ⟨u,cL hn hu⟩
      · have:y = x:=by simpa using z
        rw [this]; exact ⟨v,by rw [bB hn,if_pos rfl]⟩
  induction h with
  | nil=>exact ⟨List.nodup_nil,fun x h=>(by cases h)⟩
  | root _ hn _ _ ih=>exact snoc hn ih
  | link _ hn _ _ _ _ ih=>exact snoc hn ih
theorem Cm.few {n:Nat} {E:Int → Int → Int → Prop} {cs:bw} (h:Cm n E cs):cs.length ≤ n:=by
  have:=h.nd.1.length_le_of_subset (l₂:=(List.range n).map fun j=>((j + 1:Nat):Int)) fun x hx=>by
    obtain ⟨u,hu⟩:=h.nd.2 x hx
    have:=h.rng hu
    exact List.mem_map.mpr ⟨(x - 1).toNat,List.mem_range.mpr (by exact zo223 this),by exact zo173 this⟩
  rw [List.length_map,List.length_map,List.length_range] at this
  exact this
def hdP (p:List (Int × Int)) (r:Int):Int:=match p with
  | []=>r
  | l :: _=>l.1
def twP (ps:List Int):List (Int × Int) → Int → Bool
  | [],_=>false
  | l :: p,r=>aF ps l.1 (hdP p r) != twP ps p r
theorem Back.hd {cs:bw} {x r:Int} {p:List (Int × Int)} (h:Back cs x p r):hdP p r = x:=by cases h <;> rfl
theorem gK {ps:List Int} {r:Int}:∀ (p c:List (Int × Int)),twP ps (p ++ c) r = (twP ps p (hdP c r) != twP ps c r)
  | [],c=>by show _ = (false != _); simp
  | l :: p,c=>by
    show (aF ps l.1 (hdP (p ++ c) r) != twP ps (p ++ c) r) = ((aF ps l.1 (hdP p (hdP c r)) != twP ps p (hdP c r)) != twP ps c r)
    rw [gK p c]
    have:hdP (p ++ c) r = hdP p (hdP c r):=by cases p <;> rfl
    rw [this]
    cases aF ps l.1 (hdP p (hdP c r)) <;> cases twP ps p (hdP c r) <;> cases twP ps c r <;> rfl
def Wk (J:Int → Int → Int → Prop):List (Int × Int) → Int → Prop
  | [],_=>True
  | l :: B,x=>J l.1 (hdP B x) l.2 ∧ Wk J B x
theorem j_ (A B:List (Int × Int)) (x:Int):hdP (A ++ B) x = hdP A (hdP B x):=by cases A <;> rfl
theorem ku {J:Int → Int → Int → Prop} {x:Int}:∀ {A B:List (Int × Int)},Wk J (A ++ B) x ↔ Wk J A (hdP B x) ∧ Wk J B x
  | [],B=>⟨fun h=>⟨trivial,h⟩,fun h=>h.2⟩
  | l :: A,B=>by
    show (J l.1 (hdP (A ++ B) x) l.2 ∧ Wk J (A ++ B) x) ↔ (J l.1 (hdP A (hdP B x)) l.2 ∧ Wk J A (hdP B x)) ∧ Wk J B x
    rw [j_,ku,and_assoc]
theorem Back.wk {n:Nat} {E:Int → Int → Int → Prop} {cs:bw} (hc:Cm n E cs) {x r:Int} {p:List (Int × Int)} (h:Back cs x p r):Wk E p r:=by
  induction h with
  | root e=>trivial
  | @step x t k r p e hb ih=>exact ⟨by rw [hb.hd]; exact (hc.par e).1,ih⟩
def dnP:List (Int × Int) → Int → List (Int × Int)
  | [],_=>[]
  | l :: q,z=>dnP q z ++ [(hdP q z,l.2)]
theorem mD:∀ (q:List (Int × Int)) (z:Int),(dnP q z).length = q.length
  | [],_=>rfl
  | l :: q,z=>by rw [dnP,List.length_append,mD q z]; rfl
theorem vg:∀ (q s:List (Int × Int)) (z x:Int),hdP s x = hdP q z → hdP (dnP q z ++ s) x = z
  | [],s,z,x,h=>h
  | l :: q,s,z,x,h=>by
    rw [dnP,List.append_assoc]
    exact vg q ([(hdP q z,l.2)] ++ s) z x rfl
theorem u8 {J:Int → Int → Int → Prop} (sy:∀ a b k,J a b k → J b a k):∀ (q s:List (Int × Int)) (z x:Int),hdP s x = hdP q z → Wk J q z → Wk J s x → Wk J (dnP q z ++ s) x
  | [],s,z,x,_,_,h=>h
  | l :: q,s,z,x,h,hq,hs=>by
    rw [dnP,List.append_assoc]
    refine u8 sy q ([(hdP q z,l.2)] ++ s) z x rfl hq.2 ⟨?_,hs⟩
    show J (hdP q z) (hdP s x) l.2
    rw [h]; exact sy _ _ _ hq.1
theorem gc (ps:List Int) (a b:Int):aF ps a b = aF ps b a:=by unfold aF; rw [Bool.and_comm]
theorem vh {ps:List Int}:∀ (q s:List (Int × Int)) (z x:Int),hdP s x = hdP q z → twP ps (dnP q z ++ s) x = (twP ps q z != twP ps s x)
  | [],s,z,x,_=>by show twP ps s x = (false != twP ps s x); simp
  | l :: q,s,z,x,h=>by
    rw [dnP,List.append_assoc,vh q ([(hdP q z,l.2)] ++ s) z x rfl]
    show (twP ps q z != (aF ps (hdP q z) (hdP s x) != twP ps s x)) = ((aF ps l.1 (hdP q z) != twP ps q z) != twP ps s x)
    rw [h,gc ps (hdP q z)]
    show (twP ps q z != (aF ps l.1 (hdP q z) != twP ps s x)) = _
    cases aF ps l.1 (hdP q z) <;> cases twP ps q z <;> cases twP ps s x <;> rfl
theorem eC {R:List (Int × Int)} {j:Nat} (h:j < R.length):R.drop j = nth R j :: R.drop (j + 1):=by
  rw [List.drop_eq_getElem_cons h]
  congr 1
  have:=ij h
  rw [List.getElem?_eq_getElem h] at this
  exact Option.some.inj this
theorem kO {R:List (Int × Int)} {j:Nat} {x:Int} (h:j < R.length) (hx:hdP R x = x):hdP (R.drop (j + 1)) x = (nth R ((j + 1) % R.length)).1:=by
  by_cases e:j + 1 < R.length
  · rw [eC e,Nat.mod_eq_of_lt e]; rfl
  · have e':j + 1 = R.length:=by exact ut h e
    rw [e',List.drop_length,Nat.mod_self]
    have:=eC (R:=R) (j:=0) (by exact zo314 h e)
    rw [List.drop_zero] at this
    show x = (nth R 0).1
    rw [← hx]
    conv=>lhs; rw [this]
    rfl
theorem oZ {ps:List Int} {as:List Ask} {R:List (Int × Int)} {x:Int} (hx:hdP R x = x) (hw:Wk (fun a b k=>cN ps as a b k = true) R x) (ht:twP ps R x = true):du ps as R = true:=by
  have wk:∀ j,j ≤ R.length → Wk (fun a b k=>cN ps as a b k = true) (R.drop j) x:=by
    intro j
    induction j with
    | zero=>intro _; exact hw
    | succ j ih=>intro hj; have:=ih (by exact zo77 hj); rw [eC (by exact qg hj)] at this; exact this.2
  have cnt:∀ i,i ≤ R.length → (decide (eM ps R i % 2 = 1) != twP ps (R.drop i) x) = true:=by
    intro i
    induction i with
    | zero=>intro _; show (false != twP ps R x) = true; rw [ht]; rfl
    | succ i ih =>
      intro hi
      have:=ih (by exact zo77 hi)
      rw [eC (by exact qg hi)] at this
      have e:twP ps (nth R i :: R.drop (i + 1)) x = (apT ps R i != twP ps (R.drop (i + 1)) x):=by
        show (aF ps (nth R i).1 (hdP (R.drop (i + 1)) x) != _) = _
        rw [kO (by exact qg hi) hx]; rfl
      rw [e] at this
      rw [fK]
      revert this
      generalize eM ps R i = c
      cases apT ps R i <;> cases twP ps (R.drop (i + 1)) x <;> simp <;> (first|lia|omega)
  rw [lI fun j hj=>?_]
  · have:=cnt R.length (Nat.le_refl _)
    rw [List.drop_length] at this
    revert this
    show (decide _ != false) = true → _
    intro h
    revert h
    cases decide (eM ps R R.length % 2 = 1)
    · intro h; cases h
    · intro _; rfl
  · have:=wk j (by exact u9 hj)
    rw [eC hj] at this
    have h2:=this.1
    rw [kO hj hx] at h2
    exact h2
theorem qS {n:Nat} {ps:List Int} {as:List Ask} {cs:bw} {x y k r:Int} {P Q C:List (Int × Int)} (hc:Cm n (fun a b k=>cN ps as a b k = true) cs) (h1:Back cs x (P ++ C) r) (h2:Back cs y (Q ++ C) r) (hj:cN ps as x y k = true) (hcl:((twP ps (P ++ C) r != twP ps (Q ++ C) r) != aF ps x y) = true) :
    du ps as (P ++ (dnP Q (hdP C r) ++ [(y,k)])) = true ∧ 3 ≤ (P ++ (dnP Q (hdP C r) ++ [(y,k)])).length:=by
  have sy:∀ a b k,cN ps as a b k = true → cN ps as b a k = true:=fun a b k h=>by
    unfold cN at *
    rw [Bool.and_eq_true,Bool.and_eq_true] at h ⊢
    refine ⟨?_,h.2.2,h.2.1⟩
    have h1:=h.1
    rw [Bool.not_eq_true',decide_eq_false_iff_not] at h1 ⊢
    exact fun e=>h1 e.symm
  have e1:=h1.hd
  have e2:=h2.hd
  rw [j_] at e1 e2
  have w1:=ku.mp (h1.wk hc)
  have w2:=ku.mp (h2.wk hc)
  rw [gK,gK] at hcl
  generalize hdP C r = z at *
  have hz:hdP (dnP Q z ++ [(y,k)]) x = z:=vg Q [(y,k)] z x (by rw [e2]; rfl)
  refine ⟨oZ (x:=x) ?_ ?_ ?_,?_⟩
  · rw [j_,hz]; exact e1
  · rw [ku,hz]
    exact ⟨w1.1,u8 sy Q [(y,k)] z x (by rw [e2]; rfl) w2.1 ⟨sy _ _ _ hj,trivial⟩⟩
  · rw [gK,hz,vh Q [(y,k)] z x (by rw [e2]; rfl)]
    show (twP ps P z != (twP ps Q z != (aF ps y x != false))) = true
    rw [gc ps y x]
    revert hcl
    cases twP ps P z <;> cases twP ps Q z <;> cases twP ps C r <;> cases aF ps x y <;> decide
  · rw [List.length_append,List.length_append,mD]
    show 3 ≤ P.length + (Q.length + 1)
    have hne:x ≠ y:=fun e=>by
      unfold cN at hj; rw [e] at hj; simp at hj
    rcases P with _ | ⟨l,P⟩
    · rcases Q with _ | ⟨l',Q⟩
      · exact absurd (e1.symm.trans e2) hne
      · rcases Q with _ | ⟨l'',Q⟩
        · exfalso
          have a:z = x:=e1
          have b:l'.1 = y:=e2
          revert hcl
          show (((false != twP ps C r) != ((aF ps l'.1 z != false) != twP ps C r)) != aF ps x y) = true → False
          rw [a,b,gc ps y x]
          cases twP ps C r <;> cases aF ps x y <;> decide
        · show 3 ≤ 0 + (Q.length + 1 + 1 + 1); exact zo248
    · rcases P with _ | ⟨l2,P⟩
      · rcases Q with _ | ⟨l',Q⟩
        · exfalso
          have a:l.1 = x:=e1
          have b:z = y:=e2
          revert hcl
          show ((((aF ps l.1 z != false) != twP ps C r) != (false != twP ps C r)) != aF ps x y) = true → False
          rw [a,b]
          cases twP ps C r <;> cases aF ps x y <;> decide
        · show 3 ≤ 0 + 1 + (Q.length + 1 + 1); exact zo263
      · show 3 ≤ P.length + 1 + 1 + (Q.length + 1); exact zo195
end L2
namespace L2
open PySem PySem.Spec PyProof.Rows
section
variable {X:Cx} {ow:List Bool} {a b:Expr} {ma mb:DSt → (Int → Prop) → Prop} {pos:Pos}
theorem ra {op:Operator} {g:Int → Int → Int} (ho:OpR X (binaryOp op) (rI0 fun i j=>.int (g i j))) (ha:QN0 X ow a ma) (hb:QN0 X ow b mb):QN0 X ow (.BinOp a op b pos) (fun ρ q=>ma ρ fun i=>mb ρ fun j=>q (g i j)):=by
  obtain ⟨ta,pa,sa⟩:=ha; obtain ⟨tb,pb,sb⟩:=hb
  exact ⟨_,nY ho pa pb,fun C G ρ σ H pd q Q r h k=>sa C G ρ σ H pd _ _ r h fun i hi=>sb C G ρ σ H pd _ _ r hi fun j hj=>⟨i,j,rfl,rfl,k _ hj⟩⟩
end
def drp (G:Hp) (as:List Addr):Hp:=fun a=>if a ∈ as then none else G a
theorem mM {G:Hp} {as:List Addr} {a:Addr} (h:a ∈ as):drp G as a = none:=if_pos h
theorem eY {G:Hp} {as:List Addr} {a:Addr} (h : ¬ a ∈ as):drp G as a = G a:=if_neg h
theorem xq {as:List Addr} (nd:as.Nodup) {i j:Nat} {a:Addr} (h1:as[i]? = some a) (h2:as[j]? = some a):i = j:=by
  obtain ⟨l1,e1⟩:=List.getElem?_eq_some_iff.mp h1
  obtain ⟨l2,e2⟩:=List.getElem?_eq_some_iff.mp h2
  exact (List.getElem_inj (h₀:=l1) (h₁:=l2) nd).mp (by rw [e1,e2])
theorem ix_at {as:List Addr} (nd:as.Nodup) {j:Nat} {a:Addr} (h:as[j]? = some a):as.idxOf a = j:=by
  have hm:=List.mem_of_getElem? h
  have hl:=List.idxOf_lt_length_iff.mpr hm
  refine xq nd (a:=a) ?_ h
  rw [List.getElem?_eq_getElem hl,List.getElem_idxOf]
section
variable {C:Ctx} {ow:List Bool} {G G':Hp} {ρ:DSt} {σ:St} {H H':Hp} {pd:List (D × V)} {O O':Own}
theorem RO.unshare (h0:RO C ow G ρ σ H pd O) (h:RO C ow G' ρ σ H' pd O') (z:aJ G G') {as:List Addr} (ha:∀ a ∈ as,G' a = some (.lst []) ∧ G a = none) (nd:as.Nodup) {p:Addr} (hp:H' p = none) :
    R C ow (drp G' as) ρ σ (upd H' p (.lst (as.map V.ref))) ((.lst (as.map fun _=>.lst []),.ref p) :: pd) ∧ aJ G (drp G' as):=by
  have sG:aJ G (drp G' as):=fun a o e=>by
    rw [eY fun m=>by rw [(ha a m).2] at e; cases e]; exact z a o e
  have hH:∀ a ∈ as,H' a = some (.lst []):=fun a m=>h.gh _ _ (ha a m).1
  have pas : ¬ p ∈ as:=fun m=>by rw [hH p m] at hp; cases hp
  have gp:G' p = none:=by
    cases e:G' p with
    | none=>rfl
    | some z=>rw [h.gh _ _ e] at hp; cases hp
  have ne:∀ a l,O' a = some l → a ≠ p:=fun a l e z=>by
    obtain ⟨_,⟨xs,q⟩,_⟩:=h.og a l e
    rw [z,hp] at q; cases q
  have nas:∀ a l,O' a = some l → ¬ a ∈ as:=fun a l e m=>by
    have:=(h.og a l e).1
    rw [(ha a m).1] at this; cases this
  let O2:Own:=fun a=>if a = p then some (2 * pd.length + 1,[]) else if a ∈ as then some (2 * pd.length + 1,[as.idxOf a]) else O' a
  have old:∀ a l,O' a = some l → O2 a = some l:=fun a l e=>by
    show (if a = p then _ else if a ∈ as then _ else _) = _
    rw [if_neg (ne a _ e),if_neg (nas a _ e),e]
  have ts:cK G' (drp G' as):=fun a xs e=>by
    rw [eY fun m=>by rw [(ha a m).1] at e; cases e]; exact e
  refine ⟨⟨O2,h.len,?_,fun a u e=>sG _ _ (h0.g0 a u e),?_,?_,h.cok,?_,?_,h.mp,?_,⟨?_,?_⟩,Nat.le_succ_of_le h.np⟩,sG⟩
  · intro a u e
    by_cases m:a ∈ as
    · rw [mM m] at e; cases e
    · rw [eY m] at e
      rw [am (fun z=>by rw [z,gp] at e; cases e)]
      exact h.gh _ _ e
  · intro a u e
    by_cases m:a ∈ as
    · rw [mM m] at e; cases e
    · rw [eY m] at e; exact h.gn a u e
  · intro a l e
    by_cases z1:a = p
    · subst z1; exact ⟨by rw [eY pas]; exact gp,⟨.inl (as.map V.ref),aH⟩,.inl (h.al _ hp)⟩
    · rw [am z1]
      change (if a = p then _ else if a ∈ as then _ else _) = _ at e
      rw [if_neg z1] at e
      by_cases m:a ∈ as
      · refine ⟨mM m,⟨.inl [],hH a m⟩,.inl ?_⟩
        rcases h.gn a _ (ha a m).1 with q | q
        · have:=h0.g0 a _ q; rw [(ha a m).2] at this; cases this
        · exact q
      · rw [if_neg m] at e
        rw [eY m]; exact h.og a _ e
  · intro a u e n
    rw [am (au (h.fr a u e n) hp)]
    exact h.fr a u e n
  · intro a e
    by_cases z1:a = p
    · subst z1; rw [aH] at e; cases e
    · rw [am z1] at e; exact h.al a e
  · intro i d e
    by_cases c:ow[i]? = some true
    · obtain ⟨v,h1,h2⟩:=h.sl i d e
      rw [if_pos c] at h2
      exact ⟨v,h1,by rw [if_pos c]; exact h2.keep ts fun a τ q=>⟨old a _ q,am (ne a _ q)⟩⟩
    · obtain ⟨v,h1,h2⟩:=h0.sl i d e
      rw [if_neg c] at h2
      exact ⟨v,h1,by rw [if_neg c]; exact h2.mono sG⟩
  · rw [Sep]
    refine ⟨p,as.map V.ref,rfl,by show (if p = p then _ else _) = _; rw [if_pos rfl],aH,?_⟩
    have:=Seps.mk (G:=drp G' as) (H:=upd H' p (.lst (as.map V.ref))) (O:=O2) (i:=2 * pd.length + 1) (T:=as.map fun a=>((.lst [],.ref a):D × V)) (k:=0) (π:=[]) (fun j x e=>by
      rw [List.getElem?_map] at e
      obtain ⟨a,e1,e2⟩:=Option.map_eq_some_iff.mp e
      subst e2
      have m:=List.mem_of_getElem? e1
      have nep:a ≠ p:=fun z=>pas (z ▸ m)
      show Sep _ _ _ _ (.lst []) _ (.ref a)
      rw [Sep]
      refine ⟨a,[],rfl,?_,by rw [am nep]; exact hH a m,by rw [Seps]⟩
      show (if a = p then _ else if a ∈ as then _ else _) = _
      rw [if_neg nep,if_pos m,ix_at nd e1,Nat.zero_add])
    rw [List.map_map,List.map_map] at this
    exact this
  · exact bX.keep ts (fun a j π hj q=>⟨old a _ q,am (ne a _ q)⟩) h.pn
end
theorem oA {ow:List Bool} {J:It} {g:TG} {mg:MG} {tt:TT} {C:Ctx} {G:Hp} {ρ:DSt} {σ:St} {H:Hp} {pd:List (D × V)} {ds:List D} {own:List Str} {js:List Nat} {Z:List V → Hp → Prop}
    (r:R C ow G ρ σ H pd) (hj:∀ j ∈ js,ow[j]? ≠ some true) (jo:kb J G ds) (sg:SG ⟨[],[],false⟩ g mg) (st:STe [] tt (kY true)) (hk:∀ x H k,g x (bG own js σ) H k → g x (bG own js σ) H fun σ2 H2=>kept (bG own js σ) σ2 ∧ k σ2 H2)
    (hl:ds.length ≤ 1000) (hm:∀ d ∈ ds,mg d (dg own.length js ρ) fun _=>True)
    (k:∀ (as:List Addr) G' H',aJ G G' → R C ow G' ρ σ H' pd → as.length = ds.length → as.Nodup → (∀ a ∈ as,G' a = some (.lst []) ∧ G a = none) → Z (as.map V.ref) H'):lz J g tt (tLst tNil) (bG own js σ) H Z:=by
  obtain ⟨O,ro⟩:=r
  have ri:=ro.inner own js hj
  have nt:∀ i:Nat,([]:List Bool)[i]? ≠ some true:=fun i=>by simp
  let C1:Ctx:=⟨G,H,cv (fun _=>none) O,[],0⟩
  refine ⟨fun i m acc H'=>m = ds.length - i ∧ i ≤ ds.length ∧ ∃ (G':Hp) (as:List Addr),aJ G G' ∧ R C1 [] G' (dg own.length js ρ) (bG own js σ) H' [] ∧ acc = as.map V.ref ∧ as.length = i ∧ as.Nodup ∧ ∀ a ∈ as,G' a = some (.lst []) ∧ G a = none,⟨_,rfl,Nat.zero_le _,G,[],aJ.refl _,⟨_,ri⟩,rfl,rfl,List.nodup_nil,fun a h=>(by cases h)⟩,?_⟩
  rintro i m acc H' ⟨rfl,hi,G',as,z,r',rfl,la,nd,pa⟩
  obtain ⟨sp,go⟩:=jo C1 [] G' _ _ H' [] i z r'
  by_cases hlt:i < ds.length
  · obtain ⟨g1,g2⟩:=go ds[i] (List.getElem?_eq_getElem hlt)
    refine .inr ⟨g1,bY (by rw [List.length_map]; exact zo274 hl la hlt),fun acc' H2=>∃ (G2:Hp) (as2:List Addr),aJ G G2 ∧ R C1 [] G2 (dg own.length js ρ) (bG own js σ) H2 [] ∧ acc' = as2.map V.ref ∧ as2.length = i + 1 ∧ as2.Nodup ∧ ∀ a ∈ as2,G2 a = some (.lst []) ∧ G a = none,fun acc' H2 h=>⟨ds.length - (i + 1),by (first|lia|omega),rfl,hlt,h⟩,fun x H1 hy=>hk _ _ _ ?_⟩
    obtain ⟨G1,z1,r1,p1⟩:=g2 x H1 hy
    refine sg C1 G1 _ _ H1 [] ds[i] x _ _ (fun i v e=>by simp [C1] at e) r1 p1 (hm ds[i] (List.getElem_mem hlt)) fun ρ2 σ2 h2 r2=>?_
    refine st C1 G1 ρ2 σ2 H1 [] (fun b _=>b = true) _ r2 rfl fun b ρ3 G3 H3 h3 z3 kp3 r3=>?_
    have bk:∀ {G4:Hp} {ρ4:DSt} {H4:Hp},aJ G3 G4 → R C1 [] G4 ρ4 σ2 H4 [] → R C1 [] G4 (dg own.length js ρ) (bG own js σ) H4 []:=fun z4 ⟨O4,r4⟩=>by
      obtain ⟨O1,r1'⟩:=r1
      exact ⟨_,r1'.back nt r4 (z3.trans z4)⟩
    rw [if_pos h3]
    refine ⟨Nat.zero_le _,fun p hp=>?_⟩
    obtain ⟨O3,r3⟩:=r3
    have gp:G3 p = none:=by
      cases e:G3 p with
      | none=>rfl
      | some z=>rw [r3.gh _ _ e] at hp; cases hp
    have zG:aJ G G3:=z.trans (z1.trans z3)
    have gp0:G p = none:=by
      cases e:G p with
      | none=>rfl
      | some o=>rw [zG _ _ e] at gp; cases gp
    obtain ⟨r4,z4⟩:=r3.new hp (.lst [])
    have pas:∀ a ∈ as,G3 a = some (.lst []):=fun a m=>z3 _ _ (z1 _ _ (pa a m).1)
    refine ⟨upd G3 p (.lst []),as ++ [p],zG.trans z4,bk z4 ⟨O3,r4⟩,by rw [List.map_append]; rfl,by rw [List.length_append,la]; rfl,List.nodup_append.mpr ⟨nd,by simp,fun a m b hb e=>?_⟩,fun a m=>?_⟩
    · have hb':b = p:=by simpa using hb
      have:=pas a m
      rw [e,hb',gp] at this; cases this
    · rcases List.mem_append.mp m with m | m
      · exact ⟨z4 _ _ (pas a m),(pa a m).2⟩
      · have e:a = p:=by simpa using m
        rw [e]; exact ⟨aH,gp0⟩
  · have e:i = ds.length:=by exact zo218 hi la hlt
    subst e
    refine .inl ⟨sp (Nat.le_refl _),dz (by rw [List.length_map]; exact rC hl la),?_⟩
    obtain ⟨O2,r2⟩:=r'
    refine k as G' H' z ⟨mL (fun _=>none) (fun _=>none) O O2,?_⟩ la nd pa
    refine ro.out (vs:=[]) r2 (fun _ _ _ e=>by cases e) ro.len ro.np (fun i d _ e=>e) (fun i d _ e=>.inl ⟨rfl,e⟩) fun O3 h1 h2 ts=>?_
    exact bX.keep ts (fun a j π hj e=>h1 a _ _ e rfl) ro.pn
section
variable {X:Cx} {ow:List Bool} {tg iter:Expr} {ifs:List Expr} {pos pos':Pos} {mi:MA} {mg:MG} {scope:Scope} {cl:List (Str × Addr)}
def uG (mi:MA) (mg:MG) (n:Nat) (js:List Nat):ME:=fun ρ q=>mi ρ fun ds ρ1=>ds.length ≤ 1000 ∧ (∀ d ∈ ds,mg d (dg n js ρ1) fun _=>True) ∧ q (.lst (ds.map fun _=>.lst [])) ρ1
theorem sq {wi:TI} {g:TG} {own:List Str} {js:List Nat} (si:SI ow wi mi) (cg:CG own.length g mg) (hj:∀ j ∈ js,ow[j]? ≠ some true):SF ow (jp wi g (pw [] (kY true)) (tLst tNil) own js) (uG mi mg own.length js):=fun C G ρ σ H pd q Q r h k =>
  si C G ρ σ H pd _ _ r h fun ds ρ' G' H' J hq z kp r' jo=>by
    refine oA r' hj jo cg.sg kx (fun x H k hg=>cg.kp _ e_ _ x H k (c_ _) hg) hq.1 hq.2.1 fun as G2 H2 z2 r2 la nd pa p hp=>?_
    obtain ⟨O',r'⟩:=r'
    obtain ⟨O2,r2⟩:=r2
    obtain ⟨r3,z3⟩:=r'.unshare r2 z2 pa nd hp
    have e:(as.map fun _=>D.lst []) = ds.map fun _=>D.lst []:=by
      rw [List.map_const',List.map_const',la]
    rw [e] at r3
    exact k _ ρ' _ _ _ hq.2.2 (z.trans z3) kp r3
theorem mm {M:Md} {g:TG} {i:Nat} {y:Str} {spos py:Pos} {me:ME} (own:List Str) (js:List Nat) (c:CompOk X scope cl own js) (hc:X.calm = true) (hN:X.N.Nodup) (hy:X.N[i]? = some y) (hx:Loc X.env.scope y) (hi:QI X M.ow tg iter mi) (cg:CG own.length g mg)
    (inner:∀ (C:Addr) (s₀:Shared) (H₀:Hp) (ex:List Addr),CInn (bz X scope cl (cF X own js) C s₀ H₀ ex) tg [] (.List [] pos') g (kY true) me) (hj:∀ j ∈ js,M.ow[j]? ≠ some true:=by decide) (ho:M.ow[i]? = some true:=by decide) (hu:M.mu[i]? ≠ some true:=by decide)
    (hsw:swapsWith (.ListComp (.List [] pos') [⟨tg,iter,[],0⟩] scope pos) (some (.Name y py)) spos.line X.env = pure true:=by rfl)
    (hs:∀ x,foldedSetIterable iter X.env x = pure x:=by intro _; rfl) (hf:X.fn y = true ∨ X.env.scope.names.lookup y = some .local:=by first | exact .inl rfl | exact .inr rfl | assumption) :
    QS X M (.Assign [.Name y py] (.ListComp (.List [] pos') [⟨tg,iter,[],0⟩] scope pos) spos) (j7 i (uG mi mg own.length js)):=by
  obtain ⟨wi,pi,si⟩:=hi
  exact ⟨_,d4 own js c hc hN hy hx pi (fun C s₀ H₀ ex=>⟨(inner C s₀ H₀ ex).pg,(inner C s₀ H₀ ex).qi.can,l8 cO⟩) hsw hs hf,j6 (sq si cg hj) ho hu⟩
end
section
variable {X:Cx}
theorem lF:cq X (.type "range") (fun xs H Q=>∃ i j:Int,xs = [.int i,.int j] ∧ ∀ p,H p = none → Q (.ref p) (upd H p (.rng i j))):=by
  intro pins s σ H xs us Q I r h
  obtain ⟨i,j,rfl,q⟩:=h
  obtain ⟨u,v,rfl,⟨t,rfl⟩,⟨t',rfl⟩⟩:=lu r
  refine call_range_2 ⟨.ref s.heap.objs.size,_,I.laid (a:=s.heap.objs.size) (o:=.rng i j) (fun _ _ e=>Heap.get?_push_of_some _ e) (Nat.le_refl _) ⟨_,_,_,Heap.get?_push_size _ rfl⟩,rfl,q _ (I.hok.fresh (Nat.le_refl _))⟩
theorem gQ (hc:X.calm = true):cq X (.type "list") (fun xs H Q=>∃ (r:Addr) (i j:Int),xs = [.ref r] ∧ H r = some (.rng i j) ∧ 0 ≤ i ∧ i ≤ j ∧ j ≤ 1000 ∧ ∀ p,H p = none → Q (.ref p) (upd H p (.lst ((l_ i (j - i).toNat).map V.int)))):=by
  intro pins s σ H xs us Q I r h
  obtain ⟨a,lo,j,rfl,ha,h0,hij,h1,q⟩:=h
  obtain ⟨u,rfl,ru⟩:=eB r
  cases ru
  obtain ⟨t,u,v,e⟩:=(show bd X.prog X.w H s.heap a (.rng lo j) from I.hok a _ ha)
  refine call_list_range (n:=(j - lo).toNat) (I.ok.hd hc) e (small_one (by exact zo366 h0) (by exact zo351 hij h1) (by exact zo333 h0 hij) (by exact zo371 h1)) (by rw [rangeSize_one]; split <;> (first|lia|omega)) (by exact zo273 h0 h1) fun h' tk acc' c' hk hS hacc=>?_
  refine ⟨.ref s.heap.objs.size,_,I.laid (a:=s.heap.objs.size) (o:=.lst ((l_ lo (j - lo).toNat).map V.int)) hk (Nat.le_refl _) ?_,rfl,q _ (I.hok.fresh (Nat.le_refl _))⟩
  have hl:((l_ lo (j - lo).toNat).map V.int).length = (j - lo).toNat:=by simp [l_]
  refine ⟨Nat.le_of_lt (bY (by rw [hl]; exact zo260 h0 h1)),acc'.toList,c',gz (by rw [hl]; simpa using hacc.1.symm) (fun i x w e1 e2=>?_),by simpa using hS⟩
  have e3:=hacc.2 i w (by simpa using e2)
  obtain ⟨t',rfl⟩:=e3
  rw [List.getElem?_map] at e1
  unfold l_ at e1
  rw [List.getElem?_map] at e1
  have hi:i < (j - lo).toNat:=by
    cases z:(List.range (j - lo).toNat)[i]? with
    | none=>rw [z] at e1; cases e1
    | some k=>have:=(List.getElem?_eq_some_iff.mp z).1; simpa using this
  rw [List.getElem?_range hi] at e1
  have e1':V.int (lo + (i:Int)) = x:=Option.some.inj e1
  subst e1'
  exact ⟨t',by simp⟩
def wl (m:MA):ME:=fun ρ q=>m ρ fun ds ρ'=>match ds with
  | [.int i,.int j]=>(0 ≤ i ∧ i ≤ j ∧ j ≤ 1000) ∧ q (.lst (fj i (j - i).toNat)) ρ'
  | _=>False
theorem iN (lo:Int) (n:Nat):fj lo n = (l_ lo n).map D.int:=by unfold fj l_; rw [List.map_map]; rfl
variable {a b:Expr} {mr:MA} {pos:Pos}
theorem rO {ow:List Bool} {x y:Str} {p1 p2 pos2:Pos} (hc:X.calm = true) (hgl:Gl X x) (hml:X.mg x = none) (hvl:bootBuiltins x = some (.type "list")) (hgr:Gl X y) (hmr:X.mg y = none) (hvr:bootBuiltins y = some (.type "range")) (ha:QA X ow [a,b] mr)
    (hn1:x ≠ "__name__":=by decide) (hd1:(x == ("__debug__":Str)) = false:=by decide) (hn2:y ≠ "__name__":=by decide) (hd2:(y == ("__debug__":Str)) = false:=by decide)
    (hs1:starEach [a,b] X.env = (false,eval a X.env) :: starEach [b] X.env:=by rfl) (hs3:(backTo pos2 (starEach [b] X.env)).any (·.1) = false:=by rfl) (hs2:starEach [.Call (.Name y p2) [a,b] [] pos2] X.env = [(false,eval (.Call (.Name y p2) [a,b] [] pos2) X.env)]:=by rfl) :
    QF X ow (.Call (.Name x p1) [.Call (.Name y p2) [a,b] [] pos2] [] pos) (wl mr):=by
  obtain ⟨t,p,s⟩:=ha
  refine ⟨_,cZ (gQ hc) hgl hml hvl (bK (cZ lF hgr hmr hvr p hn2 hd2 hs1 hs3) cO hs2) hn1 hd1 hs2 (by rfl),fun C G ρ σ H pd q Q r hm k=>s C G ρ σ H pd _ _ r hm fun ds ρ' vs G' H' hq z kp r' p hn=>?_⟩
  split at hq
  · rename_i i j
    obtain ⟨v,u,rfl,p1,p2⟩:=dY p
    rw [aG p1,aG p2]
    refine ⟨i,j,rfl,fun b hb=>⟨b,i,j,rfl,aH,hq.1.1,hq.1.2.1,hq.1.2.2,fun l hl=>?_⟩⟩
    obtain ⟨O,r'⟩:=r'
    obtain ⟨r2,z2⟩:=r'.new hb (.rng i j)
    refine k _ ρ' _ _ _ hq.2 (z.trans z2) kp (r2.newL hl ?_ ?_)
    · rw [iN]; exact bV _
    · rw [iN]; exact gq _
  · exact hq.elim
end
def Itv (a:Addr) (n:Nat):It :=
  ⟨fun i H=>∃ xs x,H a = some (.lst xs) ∧ xs.length = n ∧ i < n ∧ xs[n - 1 - i]? = some x,fun i H x H'=>H' = H ∧ ∀ xs,H a = some (.lst xs) → xs[n - 1 - i]? = some x,fun i _=>n ≤ i⟩
theorem p0 {P:Program} {w:World} {K:PySem.W.Frag} {tg:Expr} (a it:Addr) (n:Nat):Turn P w K tg (Itv a n) [it] it (fun i h=>i ≤ n ∧ h.IsRevIter it a ((n:Int) - 1 - (i:Int))) where
  mem:=by simp
  obj:=fun i h st b hb=>by
    have e:b = it:=by simpa using hb
    subst e
    obtain ⟨_,o,e,c,d⟩:=st
    exact ⟨o,e,fun v z=>by rw [d] at z; cases z⟩
  keep:=fun i h h' st k=>⟨st.1,st.2.at fun o e=>k it (by simp) o e⟩
  item:=by
    intro X hP hw hK hc i pins s σ H E I hf st hg
    subst hP hw hK
    obtain ⟨xs,x,hq,hn,hi,hx⟩:=hg
    obtain ⟨its,rv,p,hz⟩:=I.list (SqL.of hq)
    obtain ⟨u,hu,ru⟩:=rv.get hx
    obtain ⟨f0,f1,f2,f3,f4,f5⟩:=hf it (by simp)
    have st2:=st.2
    rw [show (n:Int) - 1 - (i:Int) = ((n - 1 - i:Nat):Int) by exact zo112 hn hi] at st2
    refine wpAny_pyNext_rev_item st2 p.isList (x:=u) (by simpa using hu) fun h' st' sb=>?_
    have I1:Inv X pins σ H { s with heap:=h' }:=I.turned (t':=s.toks) (fun b o hb e=>(sb.2 b hb).trans e) f0 f1 f3 f4 f5
    obtain ⟨o,e,c,d⟩:=id st'
    refine ⟨u,rfl,qZ (s:={ s with heap:=h' }) e c d (by decide) ⟨x,H,I1,ru,⟨rfl,fun ys hy=>by rw [hq] at hy; cases hy; exact hx⟩,⟨hi,?_⟩,fun b hb=>(hf b hb).1⟩⟩
    rw [show (n:Int) - 1 - ((i + 1:Nat):Int) = ((n - 1 - i:Nat):Int) - 1 by exact zo105 hn hi]
    exact st'
  done:=by
    intro X hP hw hK hc i pins s σ H E I hf st hg
    subst hP hw hK
    have hg:n ≤ i:=hg
    have hg:i = n:=Nat.le_antisymm st.1 hg
    obtain ⟨f0,f1,f2,f3,f4,f5⟩:=hf it (by simp)
    have st2:=st.2
    rw [show (n:Int) - 1 - (i:Int) = -1 by (first|lia|omega)] at st2
    exact wpAny_pyNext_rev_end (I.ok.hd hc) st2 fun h' eb=>⟨rfl,I.turned (t':=s.toks) (fun b o hb e=>eb b o hb e) f0 f1 f3 f4 f5⟩
  self:=fun _ _ _ _ _ st h=>wpAny_pyIter_revIter st.2 h
section
variable {X:Cx} {tg:Expr}
def iRev (ta:TA):TI:=fun σ H R=>ta σ H fun vs H1=>∃ a xs,vs = [.ref a] ∧ H1 a = some (.lst xs) ∧ R (Itv a xs.length) H1
theorem wv {l:Expr} {ta:TA} {p pos:Pos} (hg:Gl X "reversed") (hm:X.mg "reversed" = none) (ha:PA X [l] ta) (hs:starEach [l] X.env = [(false,eval l X.env)]:=by rfl):PI X tg (.Call (.Name "reversed" p) [l] [] pos) (iRev ta):=by
  refine ⟨fun pins s σ H R I h=>?_⟩
  refine Call_ (eD I hg hm (show bootBuiltins "reversed" = some (.type "reversed") by decide +kernel) (PyProof.Rows.callWith_type1 (thn (ha pos pins s σ H _ I h) fun us s1 ⟨vs,H1,I1,r1,q1⟩=>?_) hs rfl))
  obtain ⟨a,xs,e,hx,q⟩:=q1
  subst e
  obtain ⟨u,rfl,ru⟩:=eB r1
  cases ru
  obtain ⟨its,rv,p1,hz⟩:=I1.list (SqL.of hx)
  have hl:=rv.length
  refine call_reversed_list p1.isList ?_
  refine wpAny_pyIter_revIter (it:=s1.heap.objs.size) (l:=a) (i:=(its.toArray.size:Int) - 1) ⟨_,Heap.get?_push_size _ rfl,rfl,rfl⟩ ?_
  refine ⟨s1.heap.objs.size,[s1.heap.objs.size],_,_,H1,rfl,I1.kept (t':=s1.toks) fun b o e=>Heap.get?_push_of_some _ e,p0 a _ xs.length,⟨Nat.zero_le _,_,Heap.get?_push_size _ rfl,rfl,?_⟩,fun b hb=>?_,q⟩
  · have e1:its.toArray.size = xs.length:=by simp; exact zo309 hl
    show Data.fields #[.ref a,rawInt ((its.toArray.size:Int) - 1)] = Data.fields #[.ref a,rawInt ((xs.length:Int) - 1 - ((0:Nat):Int))]
    rw [e1]
    congr 3
    simp
  · have e:b = s1.heap.objs.size:=by simpa using hb
    subst e
    exact I1.fpOk (Nat.le_refl _) (I1.hok.fresh (Nat.le_refl _))
theorem vV {G:Hp} {p:Addr} {xs:List V} {ds:List D} (h1:G p = some (.lst xs)) (h2:Reps G ds xs):kb (Itv p xs.length) G ds.reverse:=fun C ow G' ρ σ H pd i z r=>by
  have hp:=r.gh _ _ (z _ _ h1)
  have hl:=h2.length
  refine ⟨fun h=>by rw [List.length_reverse] at h; show xs.length ≤ i; exact zo323 hl h,fun d e=>?_⟩
  have hi:i < ds.length:=by have:=(List.getElem?_eq_some_iff.mp e).1; rw [List.length_reverse] at this; exact this
  rw [List.getElem?_reverse hi] at e
  obtain ⟨v,e1,e2⟩:=dq h2 e
  rw [← hl] at e1
  refine ⟨⟨xs,v,hp,rfl,by exact vc hl hi,e1⟩,fun x H' hy=>?_⟩
  obtain ⟨rfl,hy⟩:=hy
  have:=hy xs hp
  rw [e1] at this; cases this
  exact ⟨G',aJ.refl _,r,Rep.mono z _ _ e2⟩
def miRev (m:MA):MA:=fun ρ q=>m ρ fun ds ρ'=>match ds with
  | [.lst ds]=>q ds.reverse ρ'
  | _=>False
variable {ow:List Bool} {a:Expr} {mr:MA} {pos:Pos}
theorem we {p:Pos} (hg:Gl X "reversed") (hm:X.mg "reversed" = none) (ha:QA X ow [a] mr) (hs:starEach [a] X.env = [(false,eval a X.env)]:=by rfl):QI X ow tg (.Call (.Name "reversed" p) [a] [] pos) (miRev mr):=by
  obtain ⟨t,p,s⟩:=ha
  refine ⟨_,wv hg hm p hs,fun C G ρ σ H pd q Q r hm k=>s C G ρ σ H pd _ _ r hm fun ds ρ' vs G' H' hq z kp r' p hn=>?_⟩
  split at hq
  · obtain ⟨v,rfl,p1⟩:=bI p
    obtain ⟨a,xs,rfl,h1,h2⟩:=a6 p1
    exact ⟨a,xs,rfl,r'.gh _ _ h1,k _ ρ' G' H' _ hq z kp r' (vV h1 h2)⟩
  · exact hq.elim
end
end L2
namespace K47
open PySem L2
def top (i:Nat):Stmt:=PySem.Challenge.pw_treeasks_k47_pointed_told.main.body.getD i (.Pass ⟨0,0,0,0⟩)
abbrev iY:Stmt:=top 6
abbrev oR:Stmt:=top 7
abbrev o4:Stmt:=top 11
abbrev ou:Stmt:=top 12
abbrev jr:Stmt:=top 13
abbrev iZ:Stmt:=top 14
abbrev jP:Stmt:=top 15
abbrev iH:Stmt:=top 20
abbrev o3:Stmt:=top 21
abbrev oP:Stmt:=top 23
abbrev jK:Stmt:=top 24
abbrev oJ:Stmt:=top 25
abbrev jz:Stmt:=top 26
abbrev pf:Stmt:=top 27
abbrev jG:Stmt:=top 29
abbrev iP:Stmt:=top 30
abbrev ju:Stmt:=top 31
abbrev i6:Stmt:=top 32
abbrev jB:Stmt:=top 33
abbrev oU:Stmt:=top 34
abbrev o7:Stmt:=top 35
abbrev iX:Stmt:=top 36
abbrev iV:Stmt:=top 38
abbrev jN:Stmt:=top 39
abbrev jM:Stmt:=top 40
abbrev jq:Stmt:=top 41
abbrev jc:Stmt:=top 42
abbrev i4:Stmt:=top 43
abbrev iR:Stmt:=top 44
abbrev i9:Stmt:=top 45
abbrev jD:Stmt:=top 46
abbrev jJ:Stmt:=top 47
abbrev iM:Stmt:=top 48
abbrev pr:Stmt:=top 49
abbrev iQ:Stmt:=top 50
abbrev jL:Stmt:=top 51
abbrev je:Stmt:=top 52
abbrev iL:Stmt:=top 53
abbrev jt:Stmt:=top 54
abbrev fu:Stmt:=top 55
set_option genInjectivity false in
structure Adr where
  f_q19:Addr
  d_q19:FuncData
  f_q9:Addr
  d_q9:FuncData
  f_q0:Addr
  d_q0:FuncData
  f_q4:Addr
  d_q4:FuncData
  f_q18:Addr
  d_q18:FuncData
  f_q34:Addr
  d_q34:FuncData
  f_q17:Addr
  d_q17:FuncData
  f_q33:Addr
  d_q33:FuncData
  f_q2:Addr
  d_q2:FuncData
  f_q3:Addr
  d_q3:FuncData
  f_q40:Addr
  d_q40:FuncData
  f_q7:Addr
  d_q7:FuncData
  f_q39:Addr
  d_q39:FuncData
  f_q8:Addr
  d_q8:FuncData
  f_q11:Addr
  d_q11:FuncData
  f_q23:Addr
  d_q23:FuncData
  f_q10:Addr
  d_q10:FuncData
  f_q15:Addr
  d_q15:FuncData
  f_q30:Addr
  d_q30:FuncData
  f_q5:Addr
  d_q5:FuncData
  f_q6:Addr
  d_q6:FuncData
  f_q29:Addr
  d_q29:FuncData
  f_q35:Addr
  d_q35:FuncData
  f_q20:Addr
  d_q20:FuncData
  f_q36:Addr
  d_q36:FuncData
  f_q38:Addr
  d_q38:FuncData
  f_q42:Addr
  d_q42:FuncData
  f_q41:Addr
  d_q41:FuncData
  f_q28:Addr
  d_q28:FuncData
  f_q12:Addr
  d_q12:FuncData
  f_q22:Addr
  d_q22:FuncData
  f_q26:Addr
  d_q26:FuncData
  f_q37:Addr
  d_q37:FuncData
  f_q1:Addr
  d_q1:FuncData
  f_q21:Addr
  d_q21:FuncData
  f_q27:Addr
  d_q27:FuncData
  f_q13:Addr
  d_q13:FuncData
  f_q14:Addr
  d_q14:FuncData
  f_q25:Addr
  d_q25:FuncData
  f_law:Addr
  d_law:FuncData
set_option genInjectivity false in
structure Txt (K:PySem.W.Frag) (mg:Str → Option Value) (A:Adr):Prop where
  F_q19:Fun K "is_whole" "is_whole" iY A.f_q19 A.d_q19
  b_q19:aY K A.d_q19 ["thing"] []
  k_q19:PySem.W.keepIn K (.ref A.f_q19) = true
  m_q19:mg "is_whole" = some (.ref A.f_q19)
  F_q9:Fun K "is_between" "is_between" oR A.f_q9 A.d_q9
  b_q9:aY K A.d_q9 ["thing","least","most"] []
  k_q9:PySem.W.keepIn K (.ref A.f_q9) = true
  m_q9:mg "is_between" = some (.ref A.f_q9)
  F_q0:Fun K "has_two_lists" "has_two_lists" o4 A.f_q0 A.d_q0
  b_q0:aY K A.d_q0 ["thing"] []
  k_q0:PySem.W.keepIn K (.ref A.f_q0) = true
  m_q0:mg "has_two_lists" = some (.ref A.f_q0)
  F_q4:Fun K "look_at_tree" "look_at_tree" ou A.f_q4 A.d_q4
  b_q4:aY K A.d_q4 ["thing"] []
  k_q4:PySem.W.keepIn K (.ref A.f_q4) = true
  m_q4:mg "look_at_tree" = some (.ref A.f_q4)
  F_q18:Fun K "is_place" "is_place" jr A.f_q18 A.d_q18
  b_q18:aY K A.d_q18 ["tree","thing"] []
  k_q18:PySem.W.keepIn K (.ref A.f_q18) = true
  m_q18:mg "is_place" = some (.ref A.f_q18)
  F_q34:Fun K "is_tie" "is_tie" iZ A.f_q34 A.d_q34
  b_q34:aY K A.d_q34 ["tree","thing"] []
  k_q34:PySem.W.keepIn K (.ref A.f_q34) = true
  m_q34:mg "is_tie" = some (.ref A.f_q34)
  F_q17:Fun K "are_ends" "are_ends" jP A.f_q17 A.d_q17
  b_q17:aY K A.d_q17 ["tree","one","other"] []
  k_q17:PySem.W.keepIn K (.ref A.f_q17) = true
  m_q17:mg "are_ends" = some (.ref A.f_q17)
  F_q33:Fun K "is_ask" "is_ask" iH A.f_q33 A.d_q33
  b_q33:aY K A.d_q33 ["tree","thing"] []
  k_q33:PySem.W.keepIn K (.ref A.f_q33) = true
  m_q33:mg "is_ask" = some (.ref A.f_q33)
  F_q2:Fun K "look_at_asks" "look_at_asks" o3 A.f_q2 A.d_q2
  b_q2:aY K A.d_q2 ["tree","thing"] []
  k_q2:PySem.W.keepIn K (.ref A.f_q2) = true
  m_q2:mg "look_at_asks" = some (.ref A.f_q2)
  F_q3:Fun K "look_at_ends" "look_at_ends" oP A.f_q3 A.d_q3
  b_q3:aY K A.d_q3 ["tree","one","other"] []
  k_q3:PySem.W.keepIn K (.ref A.f_q3) = true
  m_q3:mg "look_at_ends" = some (.ref A.f_q3)
  F_q40:Fun K "climb" "climb" jK A.f_q40 A.d_q40
  b_q40:aY K A.d_q40 ["tree","one","other"] []
  k_q40:PySem.W.keepIn K (.ref A.f_q40) = true
  m_q40:mg "climb" = some (.ref A.f_q40)
  F_q7:Fun K "way_between" "way_between" oJ A.f_q7 A.d_q7
  b_q7:aY K A.d_q7 ["tree","one","other"] []
  k_q7:PySem.W.keepIn K (.ref A.f_q7) = true
  m_q7:mg "way_between" = some (.ref A.f_q7)
  F_q39:Fun K "way_of" "way_of" jz A.f_q39 A.d_q39
  b_q39:aY K A.d_q39 ["tree","ask"] []
  k_q39:PySem.W.keepIn K (.ref A.f_q39) = true
  m_q39:mg "way_of" = some (.ref A.f_q39)
  F_q8:Fun K "is_beneath" "is_beneath" pf A.f_q8 A.d_q8
  b_q8:aY K A.d_q8 ["tree","one","other"] []
  k_q8:PySem.W.keepIn K (.ref A.f_q8) = true
  m_q8:mg "is_beneath" = some (.ref A.f_q8)
  F_q11:Fun K "are_apart" "are_apart" jG A.f_q11 A.d_q11
  b_q11:aY K A.d_q11 ["tree","one","other"] []
  k_q11:PySem.W.keepIn K (.ref A.f_q11) = true
  m_q11:mg "are_apart" = some (.ref A.f_q11)
  F_q23:Fun K "links_of" "links_of" iP A.f_q23 A.d_q23
  b_q23:aY K A.d_q23 ["tree","asks"] []
  k_q23:PySem.W.keepIn K (.ref A.f_q23) = true
  m_q23:mg "links_of" = some (.ref A.f_q23)
  F_q10:Fun K "reach_from" "reach_from" ju A.f_q10 A.d_q10
  b_q10:aY K A.d_q10 ["first","links","came"] []
  k_q10:PySem.W.keepIn K (.ref A.f_q10) = true
  m_q10:mg "reach_from" = some (.ref A.f_q10)
  F_q15:Fun K "path_back" "path_back" i6 A.f_q15 A.d_q15
  b_q15:aY K A.d_q15 ["came","tie"] []
  k_q15:PySem.W.keepIn K (.ref A.f_q15) = true
  m_q15:mg "path_back" = some (.ref A.f_q15)
  F_q30:Fun K "text_of" "text_of" jB A.f_q30 A.d_q30
  b_q30:aY K A.d_q30 ["tree","came","tie"] []
  k_q30:PySem.W.keepIn K (.ref A.f_q30) = true
  m_q30:mg "text_of" = some (.ref A.f_q30)
  F_q5:Fun K "ring_through" "ring_through" oU A.f_q5 A.d_q5
  b_q5:aY K A.d_q5 ["came","one","other","closing"] []
  k_q5:PySem.W.keepIn K (.ref A.f_q5) = true
  m_q5:mg "ring_through" = some (.ref A.f_q5)
  F_q6:Fun K "first_clash" "first_clash" o7 A.f_q6 A.d_q6
  b_q6:aY K A.d_q6 ["tree","links","texts"] []
  k_q6:PySem.W.keepIn K (.ref A.f_q6) = true
  m_q6:mg "first_clash" = some (.ref A.f_q6)
  F_q29:Fun K "pointed" "pointed" iX A.f_q29 A.d_q29
  b_q29:aY K A.d_q29 ["tree","asks"] []
  k_q29:PySem.W.keepIn K (.ref A.f_q29) = true
  m_q29:mg "pointed" = some (.ref A.f_q29)
  F_q35:Fun K "_law_cell" "_law_cell" iV A.f_q35 A.d_q35
  b_q35:aY K A.d_q35 ["_law_script","_law_k"] []
  k_q35:PySem.W.keepIn K (.ref A.f_q35) = true
  m_q35:mg "_law_cell" = some (.ref A.f_q35)
  F_q20:Fun K "_law_source" "_law_source" jN A.f_q20 A.d_q20
  b_q20:aY K A.d_q20 ["_law_cell_here","_law_k"] []
  k_q20:PySem.W.keepIn K (.ref A.f_q20) = true
  m_q20:mg "_law_source" = some (.ref A.f_q20)
  F_q36:Fun K "_law_draw" "_law_draw" jM A.f_q36 A.d_q36
  b_q36:aY K A.d_q36 ["_law_source_here","_law_many"] []
  k_q36:PySem.W.keepIn K (.ref A.f_q36) = true
  m_q36:mg "_law_draw" = some (.ref A.f_q36)
  F_q38:Fun K "_law_tree" "_law_tree" jq A.f_q38 A.d_q38
  b_q38:aY K A.d_q38 ["_law_source_here","_law_most"] []
  k_q38:PySem.W.keepIn K (.ref A.f_q38) = true
  m_q38:mg "_law_tree" = some (.ref A.f_q38)
  F_q42:Fun K "_law_way" "_law_way" jc A.f_q42 A.d_q42
  b_q42:aY K A.d_q42 ["_law_parents","_law_one","_law_other"] []
  k_q42:PySem.W.keepIn K (.ref A.f_q42) = true
  m_q42:mg "_law_way" = some (.ref A.f_q42)
  F_q41:Fun K "_law_ask" "_law_ask" i4 A.f_q41 A.d_q41
  b_q41:aY K A.d_q41 ["_law_source_here","_law_many","_law_sizes","_law_worths"] []
  k_q41:PySem.W.keepIn K (.ref A.f_q41) = true
  m_q41:mg "_law_ask" = some (.ref A.f_q41)
  F_q28:Fun K "_law_world" "_law_world" iR A.f_q28 A.d_q28
  b_q28:aY K A.d_q28 ["_law_script","_law_most"] []
  k_q28:PySem.W.keepIn K (.ref A.f_q28) = true
  m_q28:mg "_law_world" = some (.ref A.f_q28)
  F_q12:Fun K "_law_beneath" "_law_beneath" i9 A.f_q12 A.d_q12
  b_q12:aY K A.d_q12 ["_law_parents","_law_one","_law_other"] []
  k_q12:PySem.W.keepIn K (.ref A.f_q12) = true
  m_q12:mg "_law_beneath" = some (.ref A.f_q12)
  F_q22:Fun K "_law_unlike" "_law_unlike" jD A.f_q22 A.d_q22
  b_q22:aY K A.d_q22 ["_law_parents","_law_one","_law_other"] []
  k_q22:PySem.W.keepIn K (.ref A.f_q22) = true
  m_q22:mg "_law_unlike" = some (.ref A.f_q22)
  F_q26:Fun K "_law_sides" "_law_sides" jJ A.f_q26 A.d_q26
  b_q26:aY K A.d_q26 ["_law_parents","_law_one","_law_other"] []
  k_q26:PySem.W.keepIn K (.ref A.f_q26) = true
  m_q26:mg "_law_sides" = some (.ref A.f_q26)
  F_q37:Fun K "_law_runs" "_law_runs" iM A.f_q37 A.d_q37
  b_q37:aY K A.d_q37 ["_law_parents","_law_ask_here","_law_thing"] []
  k_q37:PySem.W.keepIn K (.ref A.f_q37) = true
  m_q37:mg "_law_runs" = some (.ref A.f_q37)
  F_q1:Fun K "_law_is_pointing" "_law_is_pointing" pr A.f_q1 A.d_q1
  b_q1:aY K A.d_q1 ["_law_tree_here","_law_asks","_law_thing"] []
  k_q1:PySem.W.keepIn K (.ref A.f_q1) = true
  m_q1:mg "_law_is_pointing" = some (.ref A.f_q1)
  F_q21:Fun K "_law_spread" "_law_spread" iQ A.f_q21 A.d_q21
  b_q21:aY K A.d_q21 ["_law_tree_here","_law_asks"] []
  k_q21:PySem.W.keepIn K (.ref A.f_q21) = true
  m_q21:mg "_law_spread" = some (.ref A.f_q21)
  F_q27:Fun K "_law_whole" "_law_whole" jL A.f_q27 A.d_q27
  b_q27:aY K A.d_q27 ["_law_thing","_law_least","_law_most"] []
  k_q27:PySem.W.keepIn K (.ref A.f_q27) = true
  m_q27:mg "_law_whole" = some (.ref A.f_q27)
  F_q13:Fun K "_law_is_ring" "_law_is_ring" je A.f_q13 A.d_q13
  b_q13:aY K A.d_q13 ["_law_tree_here","_law_asks","_law_thing"] []
  k_q13:PySem.W.keepIn K (.ref A.f_q13) = true
  m_q13:mg "_law_is_ring" = some (.ref A.f_q13)
  F_q14:Fun K "_law_planted" "_law_planted" iL A.f_q14 A.d_q14
  b_q14:aY K A.d_q14 ["_law_tree_here","_law_source_here"] []
  k_q14:PySem.W.keepIn K (.ref A.f_q14) = true
  m_q14:mg "_law_planted" = some (.ref A.f_q14)
  F_q25:Fun K "_law_right" "_law_right" jt A.f_q25 A.d_q25
  b_q25:aY K A.d_q25 ["_law_tree_here","_law_asks"] []
  k_q25:PySem.W.keepIn K (.ref A.f_q25) = true
  m_q25:mg "_law_right" = some (.ref A.f_q25)
  F_law:Fun K "law" "law" fu A.f_law A.d_law
  b_law:aY K A.d_law ["_law_script"] []
  k_law:PySem.W.keepIn K (.ref A.f_law) = true
  m_law:mg "law" = some (.ref A.f_law)
  z_abs:mg "abs" = none
  z_bool:mg "bool" = none
  z_enumerate:mg "enumerate" = none
  z_int:mg "int" = none
  z_isinstance:mg "isinstance" = none
  z_len:mg "len" = none
  z_list:mg "list" = none
  z_max:mg "max" = none
  z_min:mg "min" = none
  z_range:mg "range" = none
  z_reversed:mg "reversed" = none
  z_set:mg "set" = none
  z_sorted:mg "sorted" = none
  z_tuple:mg "tuple" = none
  z_zip:mg "zip" = none
  c_MOST_TIES:∃ t,mg "MOST_TIES" = some (.int 23 t)
  c_MOST_ROOM:∃ t,mg "MOST_ROOM" = some (.int 1000000 t)
  c_MOST_ASKS:∃ t,mg "MOST_ASKS" = some (.int 30 t)
  c_MOST_SIZE:∃ t,mg "MOST_SIZE" = some (.int 1000000 t)
  c_MOST_WORTH:∃ t,mg "MOST_WORTH" = some (.int 1000000000000 t)
theorem vp:FnScope ["thing"] ["thing"] (af iY):=⟨rfl,rfl,rfl,by decide +kernel,rfl,by decide +kernel,by decide +kernel⟩
theorem sc_q9:FnScope ["thing","least","most"] ["thing","least","most"] (af oR):=⟨rfl,rfl,rfl,by decide +kernel,rfl,by decide +kernel,by decide +kernel⟩
theorem sc_q0:FnScope ["thing","parents","rooms"] ["thing"] (af o4):=⟨rfl,rfl,rfl,by decide +kernel,rfl,by decide +kernel,by decide +kernel⟩
theorem sc_q4:FnScope ["thing","parents","rooms","number","parent","room"] ["thing"] (af ou):=⟨rfl,rfl,rfl,by decide +kernel,rfl,by decide +kernel,by decide +kernel⟩
theorem xJ:FnScope ["tree","thing"] ["tree","thing"] (af jr):=⟨rfl,rfl,rfl,by decide +kernel,rfl,by decide +kernel,by decide +kernel⟩
theorem wP:FnScope ["tree","thing"] ["tree","thing"] (af iZ):=⟨rfl,rfl,rfl,by decide +kernel,rfl,by decide +kernel,by decide +kernel⟩
theorem wI:FnScope ["tree","one","other"] ["tree","one","other"] (af jP):=⟨rfl,rfl,rfl,by decide +kernel,rfl,by decide +kernel,by decide +kernel⟩
theorem vS:FnScope ["tree","thing","one","other","size","worth"] ["tree","thing"] (af iH):=⟨rfl,rfl,rfl,by decide +kernel,rfl,by decide +kernel,by decide +kernel⟩
theorem sc_q2:FnScope ["tree","thing","number","ask"] ["tree","thing"] (af o3):=⟨rfl,rfl,rfl,by decide +kernel,rfl,by decide +kernel,by decide +kernel⟩
theorem sc_q3:FnScope ["tree","one","other"] ["tree","one","other"] (af oP):=⟨rfl,rfl,rfl,by decide +kernel,rfl,by decide +kernel,by decide +kernel⟩
theorem wL:FnScope ["tree","one","other","way","low"] ["tree","one","other"] (af jK):=⟨rfl,rfl,rfl,by decide +kernel,rfl,by decide +kernel,by decide +kernel⟩
theorem sc_q7:FnScope ["tree","one","other","way","meeting"] ["tree","one","other"] (af oJ):=⟨rfl,rfl,rfl,by decide +kernel,rfl,by decide +kernel,by decide +kernel⟩
theorem xr:FnScope ["tree","ask"] ["tree","ask"] (af jz):=⟨rfl,rfl,rfl,by decide +kernel,rfl,by decide +kernel,by decide +kernel⟩
theorem sc_q8:FnScope ["tree","one","other","place"] ["tree","one","other"] (af pf):=⟨rfl,rfl,rfl,by decide +kernel,rfl,by decide +kernel,by decide +kernel⟩
theorem vX:FnScope ["tree","one","other"] ["tree","one","other"] (af jG):=⟨rfl,rfl,rfl,by decide +kernel,rfl,by decide +kernel,by decide +kernel⟩
theorem xL:FnScope ["tree","asks","found","number","ask","way","one","other"] ["tree","asks"] (af iP):=⟨rfl,rfl,rfl,by decide +kernel,rfl,by decide +kernel,by decide +kernel⟩
theorem vq:FnScope ["first","links","came","waiting","tie","other","number"] ["first","links","came"] (af ju):=⟨rfl,rfl,rfl,by decide +kernel,rfl,by decide +kernel,by decide +kernel⟩
theorem wA:FnScope ["came","tie","path","ahead","number"] ["came","tie"] (af i6):=⟨rfl,rfl,rfl,by decide +kernel,rfl,by decide +kernel,by decide +kernel⟩
theorem wH:FnScope ["tree","came","tie","turns"] ["tree","came","tie"] (af jB):=⟨rfl,rfl,rfl,by decide +kernel,rfl,by decide +kernel,by decide +kernel⟩
theorem sc_q5:FnScope ["came","one","other","closing","there","back"] ["came","one","other","closing"] (af oU):=⟨rfl,rfl,rfl,by decide +kernel,rfl,by decide +kernel,by decide +kernel⟩
theorem sc_q6:FnScope ["tree","links","texts","place","beside","other","number"] ["tree","links","texts"] (af o7):=⟨rfl,rfl,rfl,by decide +kernel,rfl,by decide +kernel,by decide +kernel⟩
theorem vw:FnScope ["tree","asks","links","ties","came","tie","texts","clash","one","other","number"] ["tree","asks"] (af iX):=⟨rfl,rfl,rfl,by decide +kernel,rfl,by decide +kernel,by decide +kernel⟩
theorem wD:FnScope ["_law_script","_law_k"] ["_law_script","_law_k"] (af iV):=⟨rfl,rfl,rfl,by decide +kernel,rfl,by decide +kernel,by decide +kernel⟩
theorem vJ:FnScope ["_law_cell_here","_law_k","_law_number","_law_seed"] ["_law_cell_here","_law_k"] (af jN):=⟨rfl,rfl,rfl,by decide +kernel,rfl,by decide +kernel,by decide +kernel⟩
theorem vx:FnScope ["_law_source_here","_law_many","_law_digit","_law_found"] ["_law_source_here","_law_many"] (af jM):=⟨rfl,rfl,rfl,by decide +kernel,rfl,by decide +kernel,by decide +kernel⟩
theorem xf:FnScope ["_law_source_here","_law_most","_law_many","_law_style","_law_parents","_law_k","_law_wide"] ["_law_source_here","_law_most"] (af jq):=⟨rfl,rfl,rfl,by decide +kernel,rfl,by decide +kernel,by decide +kernel⟩
theorem wM:FnScope ["_law_parents","_law_one","_law_other","_law_ties"] ["_law_parents","_law_one","_law_other"] (af jc):=⟨rfl,rfl,rfl,by decide +kernel,rfl,by decide +kernel,by decide +kernel⟩
theorem vo:FnScope ["_law_source_here","_law_many","_law_sizes","_law_worths","_law_one","_law_other","_law_size"] ["_law_source_here","_law_many","_law_sizes","_law_worths"] (af i4):=⟨rfl,rfl,rfl,by decide +kernel,rfl,by decide +kernel,by decide +kernel⟩
theorem vI:FnScope ["_law_script","_law_most","_law_tree_here","_law_asks","_law_k","_law_source_here"] ["_law_script","_law_most"] (af iR):=⟨rfl,rfl,rfl,by decide +kernel,rfl,by decide +kernel,by decide +kernel⟩
theorem wz:FnScope ["_law_parents","_law_one","_law_other"] ["_law_parents","_law_one","_law_other"] (af i9):=⟨rfl,rfl,rfl,by decide +kernel,rfl,by decide +kernel,by decide +kernel⟩
theorem xn:FnScope ["_law_parents","_law_one","_law_other"] ["_law_parents","_law_one","_law_other"] (af jD):=⟨rfl,rfl,rfl,by decide +kernel,rfl,by decide +kernel,by decide +kernel⟩
theorem w4:FnScope ["_law_parents","_law_one","_law_other","_law_up","_law_down"] ["_law_parents","_law_one","_law_other"] (af jJ):=⟨rfl,rfl,rfl,by decide +kernel,rfl,by decide +kernel,by decide +kernel⟩
theorem vK:FnScope ["_law_parents","_law_ask_here","_law_thing","_law_up","_law_down","_law_along"] ["_law_parents","_law_ask_here","_law_thing"] (af iM):=⟨rfl,rfl,rfl,by decide +kernel,rfl,by decide +kernel,by decide +kernel⟩
theorem sc_q1:FnScope ["_law_tree_here","_law_asks","_law_thing"] ["_law_tree_here","_law_asks","_law_thing"] (af pr):=⟨rfl,rfl,rfl,by decide +kernel,rfl,by decide +kernel,by decide +kernel⟩
theorem wg:FnScope ["_law_tree_here","_law_asks","_law_words","_law_ways","_law_begin","_law_more","_law_way_here","_law_known","_law_tie"] ["_law_tree_here","_law_asks"] (af iQ):=⟨rfl,rfl,rfl,by decide +kernel,rfl,by decide +kernel,by decide +kernel⟩
theorem xD:FnScope ["_law_thing","_law_least","_law_most"] ["_law_thing","_law_least","_law_most"] (af jL):=⟨rfl,rfl,rfl,by decide +kernel,rfl,by decide +kernel,by decide +kernel⟩
theorem vW:FnScope ["_law_tree_here","_law_asks","_law_thing","_law_step","_law_odd","_law_k","_law_tie","_law_number","_law_behind","_law_way_here"] ["_law_tree_here","_law_asks","_law_thing"] (af je):=⟨rfl,rfl,rfl,by decide +kernel,rfl,by decide +kernel,by decide +kernel⟩
theorem xw:FnScope ["_law_tree_here","_law_source_here","_law_many","_law_ends","_law_pairs","_law_ways","_law_ring","_law_k","_law_both","_law_asks","_law_one","_law_other"] ["_law_tree_here","_law_source_here"] (af iL):=⟨rfl,rfl,rfl,by decide +kernel,rfl,by decide +kernel,by decide +kernel⟩
theorem xE:FnScope ["_law_tree_here","_law_asks","_law_kept","_law_can","_law_turn","_law_found"] ["_law_tree_here","_law_asks"] (af jt):=⟨rfl,rfl,rfl,by decide +kernel,rfl,by decide +kernel,by decide +kernel⟩
theorem vC:FnScope ["_law_script","_law_tree_here","_law_asks","_law_k","_law_source_here","_law_some"] ["_law_script"] (af fu):=⟨rfl,rfl,rfl,by decide +kernel,rfl,by decide +kernel,by decide +kernel⟩
section
variable {P:Program} {w:World} {K:PySem.W.Frag} {mg:Str → Option Value} {base:Heap} {A:Adr}
theorem xB (T:Txt K mg A):FnOk P w K mg base CX0 1 A.f_q19 A.d_q19 ["thing"] (bt [false] false (su)):=by
  have S:=vp
  refine fnD T.F_q19 S ⟨[false],[false],false⟩ _ ?hl rfl rfl fun cdv Ar outer s H E hr=>⟨_,(ag (aU (dr (cz rfl T.z_isinstance aX (aa 0) (bW (v:=.ty "int") rfl T.z_int jT rfl)) (er (f8 (cz rfl T.z_isinstance aX (aa 0) (bW (v:=.ty "bool") rfl T.z_bool nk rfl))))))),fun ds q h=>?_⟩
  case hl=>intro ds q h; obtain ⟨d,rfl,_⟩:=h; rfl
  obtain ⟨d,rfl,hs,q0⟩:=h
  cases d <;> first | exact q0 | cases hs
theorem nv (T:Txt K mg A):FnOk P w K mg base CX0 2 A.f_q9 A.d_q9 ["thing","least","most"] (bt [false,false,false] false (oT)):=by
  have G_q19:=xB (P:=P) (w:=w) (base:=base) T
  have S:=sc_q9
  refine fnD T.F_q9 S ⟨[false,false,false],[false,false,false],false⟩ _ ?hl rfl rfl fun cdv Ar outer s H E hr=>⟨_,(ag (aU (dr (av (G_q19) (hr.mono (by decide)) rfl T.m_q19 T.k_q19 T.b_q19 (ao (aa 0) ar)) (er (g9 jI jI dB dB (aa 1) (aa 0) (aa 2)))))),fun ds q h=>?_⟩
  case hl=>intro ds q h; obtain ⟨d,lo,hi,rfl,_⟩:=h; rfl
  obtain ⟨d,lo,hi,rfl,hs,q0⟩:=h
  refine ⟨d,rfl,hs,?_⟩
  cases d
  case int i =>
    refine (bQ (c:=decide (lo ≤ i) = true) (fun c=>?_) (fun c=>?_))
    · have:btw lo hi (.int i) = decide (i ≤ hi):=by show (decide (lo ≤ i) && decide (i ≤ hi)) = _; rw [c,Bool.true_and]
      rw [this] at q0; exact q0
    · have:btw lo hi (.int i) = false:=by show (decide (lo ≤ i) && decide (i ≤ hi)) = _; rw [Bool.eq_false_iff.mpr c,Bool.false_and]
      rw [this] at q0; exact q0
  all_goals first | exact q0 | cases hs
theorem ok_q0 (T:Txt K mg A):FnOk P w K mg base CX0 1 A.f_q0 A.d_q0 ["thing"] (bt [false] false (xa)):=by
  have S:=sc_q0
  refine fnD T.F_q0 S ⟨[false],[false,false,false],false⟩ _ ?hl rfl rfl fun cdv Ar outer s H E hr=>⟨_,(ac (bf (QW.qt (dH (bu (ba (cz rfl T.z_isinstance aX (aa 0) (bW (v:=.ty "tuple") rfl T.z_tuple fP rfl)))) (dc (aS (ci hr.units) dNe (aA aq b3 rfl T.z_len a9 (ae (aa 0) ah)) ad (aP _))))) (ag (aU cM)) aQ)
      (ac (eE (aa 0) (bU rfl (aE (az (i:=1) S.nd rfl (Or.inl rfl)) (aE (az (i:=2) S.nd rfl (Or.inl rfl)) bC)) (aj (aj aW))))
      (ac (bf (QW.qt (dH (bu (ba (cz rfl T.z_isinstance aX (aa 1) (bW (v:=.ty "list") rfl T.z_list cp rfl)))) (dc (bu (ba (cz rfl T.z_isinstance aX (aa 2) (bW (v:=.ty "list") rfl T.z_list cp rfl))))))) (ag (aU cM)) aQ)
      (ag (aU (dr (cS (cR hr.units) dEq (aA aq b3 rfl T.z_len a9 (ae (aa 1) ah)) (aA aq b3 rfl T.z_len a9 (ae (aa 2) ah)) (aP _)) (er (g9 jI jI dB dB ad (aA aq b3 rfl T.z_len a9 (ae (aa 1) ah)) (eP (i:=23) rfl T.c_MOST_TIES))))))))),fun ds q h=>?_⟩
  case hl=>intro ds q h; obtain ⟨ps,rs,rfl,_⟩:=h; rfl
  obtain ⟨ps,rs,rfl,hT,q0⟩:=h
  have l1:((ps.map D.int).length:Int) = ps.length:=by rw [List.length_map]
  have l2:((rs.map D.int).length:Int) = rs.length:=by rw [List.length_map]
  have h1:=hT.len
  have h2:=hT.lo
  have h3:=hT.hi
  refine (bQ (c:=decide (((ps.map D.int).length:Int) = ((rs.map D.int).length:Int)) = true) (fun c=>?_) (fun c=>?_))
  · refine (bQ (c:=decide ((1:Int) ≤ ((ps.map D.int).length:Int)) = true) (fun c=>?_) (fun c=>?_))
    · show q (.bl (decide (((ps.map D.int).length:Int) ≤ 23))) []
      rw [decide_eq_true (by exact zo249 l1 h1 h2 h3)]; exact q0
    · exact absurd (decide_eq_true (by exact zo240 l1 h1 h2 h3)) c
  · exact absurd (decide_eq_true (by exact zo204 l1 l2 h1)) c
theorem pI (T:Txt K mg A):FnOk P w K mg base CX0 3 A.f_q4 A.d_q4 ["thing"] (bt [false] false (xl)):=by
  have G_q0:=ok_q0 (P:=P) (w:=w) (base:=base) T
  have G_q9:=nv (P:=P) (w:=w) (base:=base) T
  have S:=sc_q4
  refine fnD T.F_q4 S ⟨[false],[false,false,false,false,false,false],false⟩ _ ?hl rfl rfl fun cdv Ar outer s H E hr=>⟨_,(ac (bf (bu (ba (av (G_q0) (hr.mono (by decide)) rfl T.m_q0 T.k_q0 T.b_q0 (ao (aa 0) ar)))) (ag di) aQ)
      (ac (eE (aa 0) (bU rfl (aE (az (i:=1) S.nd rfl (Or.inl rfl)) (aE (az (i:=2) S.nd rfl (Or.inl rfl)) bC)) (aj (aj aW))))
      (ac (bH PassesOwn.never rfl (fC rfl T.z_enumerate (ae (aa 1) ah)) (bU rfl (aE (az (i:=3) S.nd rfl (Or.inl rfl)) (aE (az (i:=4) S.nd rfl (Or.inl rfl)) bC)) (aj (aj aW))) (ag (bf (bu (ba (av (G_q9) (hr.mono (by decide)) rfl T.m_q9 T.k_q9 T.b_q9 (ao (aa 4) (ao ad (ao (aa 3) ar)))))) (ag di) aQ)))
      (ag (bH PassesOwn.never rfl (fC rfl T.z_enumerate (ae (aa 2) ah)) (bU rfl (aE (az (i:=3) S.nd rfl (Or.inl rfl)) (aE (az (i:=5) S.nd rfl (Or.inl rfl)) bC)) (aj (aj aW))) (ag (bf (bu (ba (av (G_q9) (hr.mono (by decide)) rfl T.m_q9 T.k_q9 T.b_q9 (ao (aa 5) (ao ad (ao (eP (i:=1000000) rfl T.c_MOST_ROOM) ar)))))) (ag di) aQ))))))),fun ds q h=>?_⟩
  case hl=>intro ds q h; obtain ⟨ps,rs,rfl,_⟩:=h; rfl
  obtain ⟨ps,rs,rfl,hT,q0⟩:=h
  refine ⟨ps,rs,rfl,hT,?_⟩
  refine ⟨fun _ ρ=>∃ v1 v2 v3,ρ = [some (aL ps rs),some (ai ps),some (ai rs),v1,v2,v3],⟨_,_,_,rfl⟩,?_,?_⟩
  · rintro i d ρ hd ⟨v1,v2,v3,rfl⟩
    obtain ⟨d',h1,rfl⟩:=eR hd
    obtain ⟨z,hz,rfl⟩:=gS h1
    have hb:=hT.par i z hz
    refine ⟨.int z,0,(i:Int),rfl,rfl,?_⟩
    rw [dt hb.1 hb.2]
    exact ⟨_,_,_,rfl⟩
  · rintro ρ ⟨v1,v2,v3,rfl⟩
    refine ⟨fun _ ρ=>∃ v1 v2 v3,ρ = [some (aL ps rs),some (ai ps),some (ai rs),v1,v2,v3],⟨_,_,_,rfl⟩,?_,?_⟩
    · rintro i d ρ hd ⟨v1,v2,v3,rfl⟩
      obtain ⟨d',h1,rfl⟩:=eR hd
      obtain ⟨z,hz,rfl⟩:=gS h1
      have hb:=hT.room i z hz
      refine ⟨.int z,1,1000000,rfl,rfl,?_⟩
      rw [dt hb.1 hb.2]
      exact ⟨_,_,_,rfl⟩
    · rintro ρ ⟨v1,v2,v3,rfl⟩
      exact q0
theorem xm (T:Txt K mg A):FnOk P w K mg base CX0 3 A.f_q18 A.d_q18 ["tree","thing"] (bt [false,false] false (sD)):=by
  have G_q9:=nv (P:=P) (w:=w) (base:=base) T
  have S:=xJ
  refine fnD T.F_q18 S ⟨[false,false],[false,false],false⟩ _ ?hl rfl rfl fun cdv Ar outer s H E hr=>⟨_,(ag (aU (av (G_q9) (hr.mono (by decide)) rfl T.m_q9 T.k_q9 T.b_q9 (ao (aa 1) (ao ad (ao (aA aq b3 rfl T.z_len a9 (ae (aw ak dIx (aa 0) ad (fun _ _=>rfl)) ah)) ar)))))),fun ds q h=>?_⟩
  case hl=>intro ds q h; obtain ⟨ps,rs,d,rfl,_⟩:=h; rfl
  obtain ⟨ps,rs,d,rfl,hs,q0⟩:=h
  refine ⟨d,0,((ps.map D.int).length:Int),rfl,hs,?_⟩
  rw [List.length_map]; exact q0
theorem p8 (T:Txt K mg A):FnOk P w K mg base CX0 4 A.f_q17 A.d_q17 ["tree","one","other"] (bt [false,false,false] false (vy)):=by
  have G_q18:=xm (P:=P) (w:=w) (base:=base) T
  have S:=wI
  refine fnD T.F_q17 S ⟨[false,false,false],[false,false,false],false⟩ _ ?hl rfl rfl fun cdv Ar outer s H E hr=>⟨_,(ag (aU (dr (av (G_q18) (hr.mono (by decide)) rfl T.m_q18 T.k_q18 T.b_q18 (ao (aa 0) (ao (aa 1) ar))) (dr (av (G_q18) (hr.mono (by decide)) rfl T.m_q18 T.k_q18 T.b_q18 (ao (aa 0) (ao (aa 2) ar))) (er (cS (ci hr.units) dNe (aa 1) (aa 2) (aP _))))))),fun ds q h=>?_⟩
  case hl=>intro ds q h; obtain ⟨ps,rs,a,b,rfl,_⟩:=h; rfl
  obtain ⟨ps,rs,a,b,rfl,he,q0⟩:=h
  refine ⟨ps,rs,.int a,rfl,rfl,?_⟩
  rw [dt he.a0 he.a1]
  refine ⟨ps,rs,.int b,rfl,rfl,?_⟩
  rw [dt he.b0 he.b1]
  have:(!decide (a = b)) = true:=by simp [he.ne]
  show q (.bl (!decide (a = b))) []
  rw [this]; exact q0
theorem wE (T:Txt K mg A):FnOk P w K mg base CX0 3 A.f_q34 A.d_q34 ["tree","thing"] (bt [false,false] false (sdTie)):=by
  have G_q9:=nv (P:=P) (w:=w) (base:=base) T
  have S:=wP
  refine fnD T.F_q34 S ⟨[false,false],[false,false],false⟩ _ ?hl rfl rfl fun cdv Ar outer s H E hr=>⟨_,(ag (aU (av (G_q9) (hr.mono (by decide)) rfl T.m_q9 T.k_q9 T.b_q9 (ao (aa 1) (ao ad (ao (aA aq b3 rfl T.z_len a9 (ae (aw ak dIx (aa 0) ad (fun _ _=>rfl)) ah)) ar)))))),fun ds q h=>?_⟩
  case hl=>intro ds q h; obtain ⟨ps,rs,d,rfl,_⟩:=h; rfl
  obtain ⟨ps,rs,d,rfl,hs,q0⟩:=h
  refine ⟨d,1,((ps.map D.int).length:Int),rfl,hs,?_⟩
  rw [List.length_map]; exact q0
theorem ok_q8 (T:Txt K mg A):FnOk P w K mg base CX0 4 A.f_q8 A.d_q8 ["tree","one","other"] (bt [false,false,false] false (oK)):=by
  have G_q34:=wE (P:=P) (w:=w) (base:=base) T
  have G_q4:=pI (P:=P) (w:=w) (base:=base) T
  have S:=sc_q8
  refine fnD T.F_q8 S ⟨[false,false,false],[false,false,false,false],false⟩ _ ?hl rfl rfl fun cdv Ar outer s H E hr=>⟨_,(ac (dv (av (G_q4) (hr.mono (by decide)) rfl T.m_q4 T.k_q4 T.b_q4 (ao (aa 0) ar)))
      (ac (bf (QW.qt (dH (bu (ba (av (G_q34) (hr.mono (by decide)) rfl T.m_q34 T.k_q34 T.b_q34 (ao (aa 0) (ao (aa 1) ar))))) (dc (bu (ba (av (G_q34) (hr.mono (by decide)) rfl T.m_q34 T.k_q34 T.b_q34 (ao (aa 0) (ao (aa 2) ar)))))))) (ag di) aQ)
      (ac (aR (i:=3) S.nd rfl (Or.inl rfl) (aw ak dIx (aw ak dIx (aa 0) ad (fun _ _=>rfl)) (aI bR dI (aa 1) ad) (fun _ _=>rfl)))
      (ac (cu PassesOwn.never (aS gw dB (aa 3) (aa 2) (aP _)) (ag (aR (i:=3) S.nd rfl (Or.inl rfl) (aw ak dIx (aw ak dIx (aa 0) ad (fun _ _=>rfl)) (aI bR dI (aa 3) ad) (fun _ _=>rfl)))))
      (ag (aU (cS (cR hr.units) dEq (aa 3) (aa 2) (aP _)))))))),fun ds q h=>?_⟩
  case hl=>intro ds q h; obtain ⟨ps,rs,a,b,rfl,_⟩:=h; rfl
  obtain ⟨ps,rs,a,b,rfl,hT,a0,a1,b0,b1,q0⟩:=h
  refine ⟨ps,rs,rfl,hT,?_⟩
  refine ⟨ps,rs,.int a,rfl,rfl,?_⟩
  rw [dt a0 a1]
  refine ⟨ps,rs,.int b,rfl,rfl,?_⟩
  rw [dt b0 b1]
  refine bi (bT (by exact uI a0) (by exact lZ a1)) ?_
  have hp:=hT.up (show 0 < a by exact nJ a0) a1
  obtain ⟨u,hu⟩:=Up.all hT _ (bO ps a) rfl hp.1 (by exact zo0 a1 hp)
  refine ⟨fun j ρ=>∃ k:Int,ρ = [some (aL ps rs),some (.int a),some (.int b),some (.int k)] ∧ 0 ≤ k ∧ k ≤ ps.length ∧ j = k.toNat ∧ ∀ u',Up ps k u' → u.contains b = u'.contains b,⟨_,bO ps a,rfl,hp.1,by exact zo0 a1 hp,rfl,fun u' h=>by rw [hu.det h]⟩,?_⟩
  rintro j ρ ⟨k,rfl,k0,k1,rfl,hk⟩
  refine (bQ (c:=decide (b < k) = true) (fun c=>?_) (fun c=>?_))
  · have hlt:b < k:=by simpa using c
    have hp':=hT.up (show 0 < k by exact va b0 k0 hlt) k1
    refine bi (bT (by exact zo39 k0 hp') (by exact lZ k1)) ?_
    refine ⟨(bO ps k).toNat,by exact zo22 k0 hp',bO ps k,rfl,hp'.1,by exact zo0 k1 hp',rfl,fun u' h=>?_⟩
    rw [hk _ (.step (by exact qu k0 hp') h),List.contains_cons,show (b == k) = false by simp; exact vf hlt,Bool.false_or]
  · have hle:k ≤ b:=by simp at c; exact uW c
    obtain ⟨u',hu'⟩:=Up.all hT _ k rfl k0 k1
    have e:=hk u' hu'
    have:u'.contains b = decide (k = b):=by
      by_cases hkb:k = b
      · subst hkb; rw [decide_eq_true rfl]; exact List.contains_iff_mem.mpr hu'.head
      · rw [decide_eq_false hkb]
        cases z:u'.contains b with
        | false=>rfl
        | true=>have:=(hu'.le hT k1 b (List.contains_iff_mem.mp z)).2; (first|lia|omega)
    show q (.bl (decide (k = b))) []
    rw [← this,← e]
    exact q0 u hu
theorem wC (T:Txt K mg A):FnOk P w K mg base CX0 5 A.f_q33 A.d_q33 ["tree","thing"] (bt [false,false] false (sA)):=by
  have G_q17:=p8 (P:=P) (w:=w) (base:=base) T
  have G_q9:=nv (P:=P) (w:=w) (base:=base) T
  have S:=vS
  refine fnD T.F_q33 S ⟨[false,false],[false,false,false,false,false,false],false⟩ _ ?hl rfl rfl fun cdv Ar outer s H E hr=>⟨_,(ac (bf (QW.qt (dH (bu (ba (cz rfl T.z_isinstance aX (aa 1) (bW (v:=.ty "tuple") rfl T.z_tuple fP rfl)))) (dc (aS (ci hr.units) dNe (aA aq b3 rfl T.z_len a9 (ae (aa 1) ah)) ad (aP _))))) (ag (aU cM)) aQ)
      (ac (eE (aa 1) (bU rfl (aE (az (i:=2) S.nd rfl (Or.inl rfl)) (aE (az (i:=3) S.nd rfl (Or.inl rfl)) (aE (az (i:=4) S.nd rfl (Or.inl rfl)) (aE (az (i:=5) S.nd rfl (Or.inl rfl)) bC)))) (aj (aj (aj (aj aW))))))
      (ag (aU (dr (av (G_q17) (hr.mono (by decide)) rfl T.m_q17 T.k_q17 T.b_q17 (ao (aa 0) (ao (aa 2) (ao (aa 3) ar)))) (dr (av (G_q9) (hr.mono (by decide)) rfl T.m_q9 T.k_q9 T.b_q9 (ao (aa 4) (ao ad (ao (eP (i:=1000000) rfl T.c_MOST_SIZE) ar)))) (er (av (G_q9) (hr.mono (by decide)) rfl T.m_q9 T.k_q9 T.b_q9 (ao (aa 5) (ao ad (ao (eP (i:=1000000000000) rfl T.c_MOST_WORTH) ar))))))))))),fun ds q h=>?_⟩
  case hl=>intro ds q h; obtain ⟨ps,rs,a,rfl,_⟩:=h; rfl
  obtain ⟨ps,rs,a,rfl,ha,q0⟩:=h
  refine ⟨ps,rs,a.one,a.other,rfl,ha.ends,?_⟩
  refine ⟨.int a.size,1,1000000,rfl,rfl,?_⟩
  rw [dt ha.s0 ha.s1]
  refine ⟨.int a.worth,1,1000000000000,rfl,rfl,?_⟩
  rw [dt ha.w0 ha.w1]
  exact q0
theorem ok_q2 (T:Txt K mg A):FnOk P w K mg base CX0 6 A.f_q2 A.d_q2 ["tree","thing"] (bt [false,false] false (mK)):=by
  have G_q33:=wC (P:=P) (w:=w) (base:=base) T
  have G_q4:=pI (P:=P) (w:=w) (base:=base) T
  have S:=sc_q2
  refine fnD T.F_q2 S ⟨[false,false],[false,false,false,false],false⟩ _ ?hl rfl rfl fun cdv Ar outer s H E hr=>⟨_,(ac (dv (av (G_q4) (hr.mono (by decide)) rfl T.m_q4 T.k_q4 T.b_q4 (ao (aa 0) ar)))
      (ac (bf (QW.qt (dH (bu (ba (cz rfl T.z_isinstance aX (aa 1) (bW (v:=.ty "list") rfl T.z_list cp rfl)))) (dc (aS gw dB (aA aq b3 rfl T.z_len a9 (ae (aa 1) ah)) (eP (i:=30) rfl T.c_MOST_ASKS) (aP _))))) (ag di) aQ)
      (ag (bH PassesOwn.never rfl (fC rfl T.z_enumerate (ae (aa 1) ah)) (bU rfl (aE (az (i:=2) S.nd rfl (Or.inl rfl)) (aE (az (i:=3) S.nd rfl (Or.inl rfl)) bC)) (aj (aj aW))) (ag (bf (bu (ba (av (G_q33) (hr.mono (by decide)) rfl T.m_q33 T.k_q33 T.b_q33 (ao (aa 0) (ao (aa 3) ar))))) (ag di) aQ)))))),fun ds q h=>?_⟩
  case hl=>intro ds q h; obtain ⟨ps,rs,as,rfl,_⟩:=h; rfl
  obtain ⟨ps,rs,as,rfl,hT,ha,q0⟩:=h
  refine ⟨ps,rs,rfl,hT,?_⟩
  refine (bQ (c:=decide ((30:Int) < ((as.map cT).length:Int)) = true) (fun c=>?_) (fun c=>?_))
  · have:=ha.len; rw [b4] at c; simp at c; (first|lia|omega)
  refine ⟨fun _ ρ=>∃ v1 v2,ρ = [some (aL ps rs),some (aO as),v1,v2],⟨_,_,rfl⟩,?_,?_⟩
  · rintro i d ρ hd ⟨v1,v2,rfl⟩
    obtain ⟨d',h1,rfl⟩:=eR hd
    obtain ⟨z,hz,rfl⟩:=tz h1
    refine ⟨ps,rs,z,rfl,ha.ok z (List.mem_of_getElem? hz),?_⟩
    exact ⟨_,_,rfl⟩
  · rintro ρ ⟨v1,v2,rfl⟩
    exact q0
theorem ok_q3 (T:Txt K mg A):FnOk P w K mg base CX0 5 A.f_q3 A.d_q3 ["tree","one","other"] (bt [false,false,false] false (lS)):=by
  have G_q17:=p8 (P:=P) (w:=w) (base:=base) T
  have G_q4:=pI (P:=P) (w:=w) (base:=base) T
  have S:=sc_q3
  refine fnD T.F_q3 S ⟨[false,false,false],[false,false,false],false⟩ _ ?hl rfl rfl fun cdv Ar outer s H E hr=>⟨_,(ac (dv (av (G_q4) (hr.mono (by decide)) rfl T.m_q4 T.k_q4 T.b_q4 (ao (aa 0) ar)))
      (ag (bf (bu (ba (av (G_q17) (hr.mono (by decide)) rfl T.m_q17 T.k_q17 T.b_q17 (ao (aa 0) (ao (aa 1) (ao (aa 2) ar)))))) (ag di) aQ))),fun ds q h=>?_⟩
  case hl=>intro ds q h; obtain ⟨ps,rs,a,b,rfl,_⟩:=h; rfl
  obtain ⟨ps,rs,a,b,rfl,hT,he,q0⟩:=h
  refine ⟨ps,rs,rfl,hT,?_⟩
  exact ⟨ps,rs,a,b,rfl,he,q0⟩
theorem ww (T:Txt K mg A):FnOk P w K mg base CX0 1 A.f_q40 A.d_q40 ["tree","one","other"] (bt [false,false,false] true (tK)):=by
  have S:=wL
  refine fnD T.F_q40 S ⟨[false,false,false],[false,false,false,true,false],true⟩ _ ?hl rfl rfl fun cdv Ar outer s H E hr=>⟨_,(ac (bv (i:=3) S.nd rfl (Or.inl rfl) (b6 ah))
      (ac (cu PassesOwn.never (aS (ci hr.units) dNe (aa 1) (aa 2) (aP _)) (ac (aR (i:=4) S.nd rfl (Or.inl rfl) (aA (gu rfl) dMax rfl T.z_max mJ (ae (aa 1) (ae (aa 2) ah))))
      (ac (bP (i:=3) rfl (QE.qf (aa 4)))
      (ag (xu (i:=1) (j:=2) rfl S.nd rfl rfl (by decide) rfl rfl (aA (f9 rfl) dMin rfl T.z_min mQ (ae (aa 1) (ae (aa 2) ah))) (aw ak dIx (aw ak dIx (aa 0) ad (fun _ _=>rfl)) (aI bR dI (aa 4) ad) (fun _ _=>rfl)) rfl)))))
      (ag (bE (dD (a8 (QF.qm (QF.bor [3] (kL fq qO rfl T.z_sorted jH (ae (aa 3) ah)))) (a8 (QF.qm (QE.qf (aa 1))) cC))))))),fun ds q h=>?_⟩
  case hl=>intro ds q h; obtain ⟨ps,rs,a,b,rfl,_⟩:=h; rfl
  obtain ⟨ps,rs,a,b,rfl,hT,a0,a1,b0,b1,q0⟩:=h
  refine ⟨rfl,?_⟩
  refine ⟨fun k ρ=>∃ a' b' acc v,ρ = [some (aL ps rs),some (.int a'),some (.int b'),some (ai acc),v] ∧ 0 ≤ a' ∧ a' ≤ ps.length ∧ 0 ≤ b' ∧ b' ≤ ps.length ∧ k = (a' + b').toNat ∧ acc.length + (a' + b').toNat ≤ 46 ∧ (∀ w m,Climb ps a' b' w m → Climb ps a b (acc ++ w) m),⟨_,a,b,[],_,rfl,a0,a1,b0,b1,rfl,by have:=hT.hi; simp; exact zo56 a1 b1 this,fun w m h=>h⟩,?_⟩
  rintro k ρ ⟨a',b',acc,v,rfl,a0',a1',b0',b1',rfl,hl,hc⟩
  have hi:=hT.hi
  refine (bQ (c:=(!decide (a' = b')) = true) (fun c=>?_) (fun c=>?_))
  · have hne:a' ≠ b':=by simpa using c
    have key:∀ (low hig:Int),low = (if b' > a' then b' else a') → hig = (if b' < a' then b' else a') → 0 < low ∧ low ≤ ps.length ∧ 0 ≤ hig ∧ hig ≤ ps.length ∧ low + hig = a' + b' ∧ (∀ w m,Climb ps hig (bO ps low) w m → Climb ps a' b' (low :: w) m):=by
      intro low hig e1 e2
      by_cases hlt:b' < a'
      · rw [if_neg (by exact u7 hlt)] at e1; rw [if_pos hlt] at e2; subst e1; subst e2
        exact ⟨by exact zo75 a0' b0' hlt,a1',b0',b1',by exact zo349,fun w m h=>.left hlt h⟩
      · rw [if_pos (by exact zo71 hne hlt)] at e1; rw [if_neg hlt] at e2; subst e1; subst e2
        exact ⟨by exact zo172 b0' a0' hne hlt,b1',a0',a1',by exact zo325,fun w m h=>.right (by exact zo94 hne hlt) h⟩
    obtain ⟨L,hL⟩:∃ L,L = (if b' > a' then b' else a'):=⟨_,rfl⟩
    obtain ⟨J,hJ⟩:∃ J,J = (if b' < a' then b' else a'):=⟨_,rfl⟩
    obtain ⟨k1,k2,k3,k4,k5,k6⟩:=key L J hL hJ
    clear key
    have hp:=hT.up k1 k2
    refine ⟨rfl,?_⟩
    refine ⟨by show (acc.map D.int).length < 1000; rw [List.length_map]; clear hL hJ; exact zo78 hl hne k5,?_⟩
    refine bi (bT (by rw [← hL]; clear hL hJ; exact zo306 k1) (by rw [← hL]; clear hL hJ; exact lZ k2)) ?_
    refine ⟨(J + bO ps L).toNat,by clear hL hJ; exact zo4 a0' a1' b0' b1' hl hi hne k5 hp,J,bO ps L,acc ++ [L],some (.int L),?_,k3,k4,hp.1,by clear hL hJ; exact zo0 k2 hp,rfl,by rw [List.length_append]; show acc.length + 1 + _ ≤ 46; clear hL hJ; exact zo2 a0' a1' b0' b1' hl hi hne k5 hp,fun w m h=>by rw [List.append_assoc]; exact hc _ _ (k6 _ _ h)⟩
    show [some (aL ps rs),some (.int (if b' < a' then b' else a')),some (.int (bO ps (if b' > a' then b' else a'))),some (D.lst (acc.map D.int ++ [D.int (if b' > a' then b' else a')])),some (.int (if b' > a' then b' else a'))] = _
    rw [← hL,← hJ,ai,List.map_append]; rfl
  · have:a' = b':=by simpa using c
    subst this
    have hw:=hc [] a' (.same a')
    rw [List.append_nil] at hw
    have hln:=hw.len hT a0 b0 a1 b1
    refine ⟨acc,rfl,by exact zo70 a1 b1 hi hln,bV _,rfl,?_⟩
    exact q0 acc a' hw
theorem ok_q7 (T:Txt K mg A):FnOk P w K mg base CX0 6 A.f_q7 A.d_q7 ["tree","one","other"] (bt [false,false,false] true (sdWay)):=by
  have G_q40:=ww (P:=P) (w:=w) (base:=base) T
  have G_q3:=ok_q3 (P:=P) (w:=w) (base:=base) T
  have S:=sc_q7
  refine fnD T.F_q7 S ⟨[false,false,false],[false,false,false,true,false],true⟩ _ ?hl rfl rfl fun cdv Ar outer s H E hr=>⟨_,(ac (dv (av (G_q3) (hr.mono (by decide)) rfl T.m_q3 T.k_q3 T.b_q3 (ao (aa 0) (ao (aa 1) (ao (aa 2) ar)))))
      (ac (s9 rfl (QF.qm (bj (G_q40) (hr.mono (by decide)) rfl T.m_q40 T.k_q40 T.b_q40 (ao (aa 0) (ao (aa 1) (ao (aa 2) ar))))) (tL (i:=3) S.nd rfl (Or.inl rfl) (wV (i:=4) S.nd rfl (Or.inl rfl) sw)) (aj (aj aW)))
      (ag (bE (cb 3))))),fun ds q h=>?_⟩
  case hl=>intro ds q h; obtain ⟨ps,rs,a,b,rfl,_⟩:=h; rfl
  obtain ⟨ps,rs,a,b,rfl,hT,he,q0⟩:=h
  refine ⟨ps,rs,a,b,rfl,hT,he,?_⟩
  refine ⟨ps,rs,a,b,rfl,hT,he.a0,he.a1,he.b0,he.b1,fun w m hw=>?_⟩
  exact q0 w m hw
theorem xH (T:Txt K mg A):FnOk P w K mg base CX0 7 A.f_q39 A.d_q39 ["tree","ask"] (bt [false,false] true (sv)):=by
  have G_q7:=ok_q7 (P:=P) (w:=w) (base:=base) T
  have S:=xr
  refine fnD T.F_q39 S ⟨[false,false],[false,false],true⟩ _ ?hl rfl rfl fun cdv Ar outer s H E hr=>⟨_,(ag (bE (QF.qm (bj (G_q7) (hr.mono (by decide)) rfl T.m_q7 T.k_q7 T.b_q7 (ao (aa 0) (ao (aw ak dIx (aa 1) ad (fun _ _=>rfl)) (ao (aw ak dIx (aa 1) ad (fun _ _=>rfl)) ar))))))),fun ds q h=>?_⟩
  case hl=>intro ds q h; obtain ⟨ps,rs,a,rfl,_⟩:=h; rfl
  obtain ⟨ps,rs,a,rfl,hT,he,q0⟩:=h
  refine ⟨ps,rs,a.one,a.other,rfl,hT,he,fun w m hw=>?_⟩
  rw [(hw.way hT he.a0 he.b0 he.a1 he.b1).1]
  exact q0
def so:SpD:=fun ds q=>∃ ps rs a b,ds = [aL ps rs,.int a,.int b] ∧ Tree ps rs ∧ 1 ≤ a ∧ a ≤ ps.length ∧ 1 ≤ b ∧ b ≤ ps.length ∧ q (.bl (aF ps a b)) []
theorem pE (T:Txt K mg A):FnOk P w K mg base CX0 5 A.f_q11 A.d_q11 ["tree","one","other"] (bt [false,false,false] false (so)):=by
  have G_q8:=ok_q8 (P:=P) (w:=w) (base:=base) T
  have S:=vX
  refine fnD T.F_q11 S ⟨[false,false,false],[false,false,false],false⟩ _ ?hl rfl rfl fun cdv Ar outer s H E hr=>⟨_,(ag (aU (dr (f8 (av (G_q8) (hr.mono (by decide)) rfl T.m_q8 T.k_q8 T.b_q8 (ao (aa 0) (ao (aa 1) (ao (aa 2) ar))))) (er (f8 (av (G_q8) (hr.mono (by decide)) rfl T.m_q8 T.k_q8 T.b_q8 (ao (aa 0) (ao (aa 2) (ao (aa 1) ar))))))))),fun ds q h=>?_⟩
  case hl=>intro ds q h; obtain ⟨ps,rs,a,b,rfl,_⟩:=h; rfl
  obtain ⟨ps,rs,a,b,rfl,hT,a0,a1,b0,b1,q0⟩:=h
  refine ⟨ps,rs,a,b,rfl,hT,a0,a1,b0,b1,fun u hu=>?_⟩
  rw [gX hu]
  unfold aF at q0
  cases e:iy ps a b with
  | true=>rw [e] at q0; exact q0
  | false =>
    rw [e] at q0
    refine ⟨ps,rs,b,a,rfl,hT,b0,b1,a0,a1,fun v hv=>?_⟩
    rw [gX hv]
    exact q0
end
end K47
namespace K47
open PySem L2
section
variable {P:Program} {w:World} {K:PySem.W.Frag} {mg:Str → Option Value} {base:Heap} {A:Adr}
def a_ (ls:List (Int × Int)):D:=.lst (ls.map dLk)
abbrev Lks:=List (List (Int × Int))
def bg (L:Lks) (t:Int):List (Int × Int):=L.getD (t - 1).toNat []
def b_ (L:Lks) (t:Int) (l:Int × Int):Lks:=L.set (t - 1).toNat (bg L t ++ [l])
theorem eS {L:Lks} {t s:Int} {l:Int × Int} (t0 : 1 ≤ t) (t1:t ≤ (L.length:Int)) (s0 : 1 ≤ s):bg (b_ L t l) s = if s = t then bg L t ++ [l] else bg L s:=by
  unfold bg b_
  rw [List.getD_eq_getElem?_getD,List.getElem?_set]
  by_cases e:s = t
  · rw [e,if_pos rfl,if_pos rfl,if_pos (by exact zo143 t0 t1 e)]; rfl
  · rw [if_neg (show ¬ (t - 1).toNat = (s - 1).toNat by exact zo55 t0 s0 e),if_neg e,List.getD_eq_getElem?_getD]
theorem gO (L:Lks) (t:Int) (l:Int × Int):(b_ L t l).length = L.length:=List.length_set ..
structure LnOk (ps:List Int) (as:List Ask) (b:Nat) (L:Lks):Prop where
  len:L.length = ps.length
  row:∀ t:Int,1 ≤ t → t ≤ ps.length → ∀ l ∈ bg L t,cN ps as t l.1 l.2 = true ∧ LkOk ps.length as.length l
  few:∀ t:Int,1 ≤ t → t ≤ ps.length → (bg L t).length ≤ b
  sym:∀ t:Int,1 ≤ t → t ≤ ps.length → ∀ l ∈ bg L t,(t,l.2) ∈ bg L l.1
theorem LnOk.add {ps:List Int} {as:List Ask} {b:Nat} {L:Lks} {x y k:Int} (h:LnOk ps as b L) (hj:cN ps as x y k = true) (hj2:cN ps as y x k = true) (hx:LkOk ps.length as.length (x,k)) (hy:LkOk ps.length as.length (y,k)):LnOk ps as (b + 1) (b_ (b_ L x (y,k)) y (x,k)):=by
  have hne:x ≠ y:=fun e=>by unfold cN at hj; rw [e] at hj; simp at hj
  have x0 : 1 ≤ x:=hx.t0
  have x1:x ≤ ps.length:=hx.t1
  have y0 : 1 ≤ y:=hy.t0
  have y1:y ≤ ps.length:=hy.t1
  have hl:=h.len
  have row:∀ t:Int,1 ≤ t → t ≤ ps.length → bg (b_ (b_ L x (y,k)) y (x,k)) t = if t = y then bg L y ++ [(x,k)] else if t = x then bg L x ++ [(y,k)] else bg L t:=fun t t0 t1=>by
    rw [eS y0 (by rw [gO,hl]; exact y1) t0,eS x0 (by rw [hl]; exact x1) y0,eS x0 (by rw [hl]; exact x1) t0,if_neg (show ¬ y = x from fun e=>hne e.symm)]
  refine ⟨by rw [gO,gO]; exact hl,fun t t0 t1 l hm=>?_,fun t t0 t1=>?_,fun t t0 t1 l hm=>?_⟩
  · rw [row t t0 t1] at hm
    split at hm
    · rename_i e
      rcases List.mem_append.mp hm with z | z
      · rw [e]; exact h.row y y0 y1 l z
      · rw [List.mem_singleton.mp z,e]; exact ⟨hj2,hx⟩
    · split at hm
      · rename_i e
        rcases List.mem_append.mp hm with z | z
        · rw [e]; exact h.row x x0 x1 l z
        · rw [List.mem_singleton.mp z,e]; exact ⟨hj,hy⟩
      · exact h.row t t0 t1 l hm
  · rw [row t t0 t1]
    split
    · rw [List.length_append]; have:=h.few y y0 y1; show _ + 1 ≤ _; exact zo38 this
    · split
      · rw [List.length_append]; have:=h.few x x0 x1; show _ + 1 ≤ _; exact zo38 this
      · have:=h.few t t0 t1; exact zo89 this
  · rw [row t t0 t1] at hm
    have up:∀ s:Int,1 ≤ s → s ≤ ps.length → ∀ m ∈ bg L s,m ∈ bg (b_ (b_ L x (y,k)) y (x,k)) s:=fun s s0 s1 m hm=>by
      rw [row s s0 s1]
      split
      · rename_i e; rw [e] at hm; exact List.mem_append_left _ hm
      · split
        · rename_i e; rw [e] at hm; exact List.mem_append_left _ hm
        · exact hm
    split at hm
    · rename_i e
      rcases List.mem_append.mp hm with z | z
      · have lk:=(h.row y y0 y1 l z).2
        rw [e]; exact up _ lk.t0 lk.t1 _ (h.sym y y0 y1 l z)
      · rw [List.mem_singleton.mp z,e,row x x0 x1,if_neg hne,if_pos rfl]; exact List.mem_append_right _ (.head _)
    · split at hm
      · rename_i e
        rcases List.mem_append.mp hm with z | z
        · have lk:=(h.row x x0 x1 l z).2
          rw [e]; exact up _ lk.t0 lk.t1 _ (h.sym x x0 x1 l z)
        · rw [List.mem_singleton.mp z,e,row y y0 y1,if_pos rfl]; exact List.mem_append_right _ (.head _)
      · have lk:=(h.row t t0 t1 l hm).2
        exact up _ lk.t0 lk.t1 _ (h.sym t t0 t1 l hm)
theorem LnOk.up {ps:List Int} {as:List Ask} {b b':Nat} {L:Lks} (h:LnOk ps as b L) (hb:b ≤ b'):LnOk ps as b' L:=⟨h.len,h.row,fun t t0 t1=>Nat.le_trans (h.few t t0 t1) hb,h.sym⟩
theorem kh {L:Lks} {t s:Int} {l m:Int × Int} (t0 : 1 ≤ t) (t1:t ≤ (L.length:Int)) (s0 : 1 ≤ s) (h:m ∈ bg L s):m ∈ bg (b_ L t l) s:=by
  rw [eS t0 t1 s0]
  split
  · rename_i e; rw [e] at h; exact List.mem_append_left _ h
  · exact h
theorem kE {L:Lks} {t:Int} (t0 : 1 ≤ t) (t1:t ≤ (L.length:Int)):ixN (L.map a_).length (t - 1) = some (t - 1).toNat ∧ (L.map a_)[(t - 1).toNat]? = some (.lst ((bg L t).map dLk)):=by
  refine ⟨sH (by exact uI t0) (by rw [List.length_map]; exact lZ t1),?_⟩
  rw [List.getElem?_map]
  unfold bg
  rw [List.getD_eq_getElem?_getD,List.getElem?_eq_getElem (by exact zo25 t0 t1)]; rfl
theorem n_ {L:Lks} {t:Int} {l:Int × Int}:(L.map a_).set (t - 1).toNat (.lst ((bg L t).map dLk ++ [dLk l])) = (b_ L t l).map a_:=by
  unfold b_
  rw [List.map_set]
  congr 1
  unfold a_
  rw [List.map_append]; rfl
def Cov (ps:List Int) (as:List Ask) (L:Lks) (i:Nat):Prop:=∀ (k:Nat) a,k < i → as[k]? = some a → ∀ p ∈ (bp ps a).zip ((bp ps a).drop 1),(p.2,(k:Int)) ∈ bg L p.1
def tP:SpD:=fun ds q=>∃ ps rs as,ds = [aL ps rs,aO as] ∧ Tree ps rs ∧ AsksOk ps as ∧ ∀ L,LnOk ps as 690 L → Cov ps as L as.length → q (.lst (L.map a_)) []
theorem vk (T:Txt K mg A):FnOk P w K mg base CX0 8 A.f_q23 A.d_q23 ["tree","asks"] (bt [false,false] true (tP)):=by
  have G_q39:=xH (P:=P) (w:=w) (base:=base) T
  have S:=xL
  refine fnD T.F_q23 S ⟨[false,false],[false,false,true,false,false,false,false,false],true⟩ _ ?hl rfl rfl fun cdv Ar outer s H E hr=>⟨_,(ac (mm (i:=2) ["parent"] [] ⟨rfl,rfl,by decide +kernel,rfl,rfl,(by first | exact trivial | exact ⟨rfl,trivial⟩ | exact ⟨rfl,rfl,trivial⟩ | exact ⟨rfl,rfl,rfl,trivial⟩ | exact ⟨rfl,rfl,rfl,rfl,trivial⟩),rfl⟩ rfl S.nd rfl (Or.inl rfl) (bn (aw ak dIx (aa 0) ad (fun _ _=>rfl))) (bD 0) (fun _ _ _ _=>⟨(bc (i:=0) (show List.Nodup (["parent"]:List Str) by decide +kernel) rfl (Or.inl rfl)),cB,(cx ah)⟩))
      (ac (bH PassesOwn.never rfl (fC rfl T.z_enumerate (ae (aa 1) ah)) (bU rfl (aE (az (i:=3) S.nd rfl (Or.inl rfl)) (aE (az (i:=4) S.nd rfl (Or.inl rfl)) bC)) (aj (aj aW))) (ac (aR (i:=5) S.nd rfl (Or.inl rfl) (QF.qe (bj (G_q39) (hr.mono (by decide)) rfl T.m_q39 T.k_q39 T.b_q39 (ao (aa 0) (ao (aa 4) ar)))))
      (ag (bH PassesOwn.never rfl (vU rfl T.z_zip (ae (aa 5) (ae (kU (aa 5) (kf ad) kI) ah))) (bU rfl (aE (az (i:=6) S.nd rfl (Or.inl rfl)) (aE (az (i:=7) S.nd rfl (Or.inl rfl)) bC)) (aj (aj aW))) (ac (nH (i:=2) (rg mY (ra bR (qW 6) l4)) (b8 (ae (aa 7) (ae (aa 3) ah))))
      (ag (nH (i:=2) (rg mY (ra bR (qW 7) l4)) (b8 (ae (aa 6) (ae (aa 3) ah))))))))))
      (ag (bE (cb 2))))),fun ds q h=>?_⟩
  case hl=>intro ds q h; obtain ⟨ps,rs,as,rfl,_⟩:=h; rfl
  obtain ⟨ps,rs,as,rfl,hT,ha,q0⟩:=h
  have hal:=ha.len
  have hti:=hT.hi
  refine ⟨by rw [aK]; exact sk hti,fun d hd=>trivial,?_⟩
  have e0:((ps.map D.int).map fun _=>D.lst []) = (ps.map fun _=>([]:List (Int × Int))).map a_:=by rw [List.map_map,List.map_map]; rfl
  rw [e0]
  have hlen0:(ps.map fun _=>([]:List (Int × Int))).length = ps.length:=List.length_map ..
  have h0:LnOk ps as (23 * 0) (ps.map fun _=>([]:List (Int × Int))):=by
    have re:∀ t:Int,bg (ps.map fun _=>([]:List (Int × Int))) t = []:=fun t=>by
      unfold bg
      rw [List.getD_eq_getElem?_getD,List.getElem?_map]
      cases ps[(t - 1).toNat]? <;> rfl
    refine ⟨hlen0,fun t _ _ l hm=>?_,fun t _ _=>?_,fun t _ _ l hm=>?_⟩
    · rw [re] at hm; cases hm
    · rw [re]; exact Nat.le_refl _
    · rw [re] at hm; cases hm
  refine ⟨fun i ρ=>∃ L v3 v4 v5 v6 v7,ρ = [some (aL ps rs),some (aO as),some (.lst (L.map a_)),v3,v4,v5,v6,v7] ∧ LnOk ps as (23 * i) L ∧ Cov ps as L i,⟨_,_,_,_,_,_,rfl,h0,fun k a h=>absurd h (Nat.not_lt_zero _)⟩,?_,?_⟩
  rotate_left
  · rintro ρ ⟨L,v3,v4,v5,v6,v7,rfl,hL,hC⟩
    rw [ib,b4] at hL hC
    exact q0 L (hL.up (by exact zo343 hal)) hC
  rintro i d ρ hd ⟨L,v3,v4,v5,v6,v7,rfl,hL,hC⟩
  obtain ⟨d',hd',rfl⟩:=eR hd
  obtain ⟨a,ha1,rfl⟩:∃ a,as[i]? = some a ∧ cT a = d':=by rw [List.getElem?_map] at hd'; exact Option.map_eq_some_iff.mp hd'
  have hil:i < as.length:=(List.getElem?_eq_some_iff.mp ha1).1
  have hok:=ha.ok a (List.mem_of_getElem? ha1)
  have he:=hok.ends
  have hnd:(bp ps a).Nodup:=gm hT he
  have hwm:∀ t ∈ bp ps a,0 < t ∧ t ≤ (ps.length:Int):=fun t ht=>cD hT he ht
  have eN:jR as (i:Int) = a:=by unfold jR; rw [Int.toNat_natCast,List.getD_eq_getElem?_getD,ha1]; rfl
  have hwl:(bp ps a).length ≤ 23:=by
    have:=hnd.length_le_of_subset (l₂:=(List.range ps.length).map fun j=>((j + 1:Nat):Int)) fun x hx=>by
      have:=hwm x hx
      exact List.mem_map.mpr ⟨(x - 1).toNat,List.mem_range.mpr (by exact zo117 hlen0 this),by exact zo109 this⟩
    rw [List.length_map,List.length_range] at this
    exact zo233 hti hlen0 this
  have hjn:∀ x ∈ bp ps a,∀ y ∈ bp ps a,x ≠ y → cN ps as x y (i:Int) = true:=fun x hx y hy e=>by
    unfold cN
    rw [eN,List.contains_iff_mem.mpr hx,List.contains_iff_mem.mpr hy]
    simp [e]
  refine ⟨ps,rs,a,rfl,hT,he,?_⟩
  generalize hW:bp ps a = W at hnd hwm hwl hjn
  have ec:gr (W.map D.int) (some 1) none = (W.drop 1).map D.int:=by rw [oM (by decide),List.map_drop]; rfl
  refine ⟨fun j ρ=>∃ L v6 v7,ρ = [some (aL ps rs),some (aO as),some (.lst (L.map a_)),some (.int (i:Int)),some (cT a),some (ai W),v6,v7] ∧ LnOk ps as (23 * i + j) L ∧ Cov ps as L i ∧ ∀ p ∈ (W.zip (W.drop 1)).take j,(p.2,(i:Int)) ∈ bg L p.1,⟨L,_,_,rfl,hL,hC,fun p h=>(by cases h)⟩,?_,?_⟩
  rotate_left
  · rintro ρ ⟨L,v6,v7,rfl,hL,hC,hp⟩
    have hzl:(lY (W.map D.int) (gr (W.map D.int) (some 1) none)).length = (W.zip (W.drop 1)).length:=by
      rw [ec]; unfold lY; rw [List.length_zipWith,List.length_zip,List.length_map,List.length_map]
    rw [hzl] at hL hp
    rw [List.take_length] at hp
    refine ⟨L,_,_,_,_,_,rfl,hL.up ?_,fun k b hk hb p hp2=>?_⟩
    · rw [List.length_zip,List.length_drop]; (first|lia|omega)
    · by_cases e:k = i
      · subst e; rw [ha1] at hb; cases hb; rw [hW] at hp2; exact hp p hp2
      · exact hC k b (by exact pU hk e) hb p hp2
  rintro j d ρ hd ⟨L,v6,v7,rfl,hL,hC,hp⟩
  rw [ec] at hd
  obtain ⟨x',y',hx,hy,rfl⟩:=nr hd
  obtain ⟨x,hx1,rfl⟩:=gS hx
  obtain ⟨y,hy1,rfl⟩:=gS hy
  clear hx hy
  have hx:=hx1
  have hy:=hy1
  have hzj:(W.zip (W.drop 1))[j]? = some (x,y):=List.getElem?_zip_eq_some.mpr ⟨hx,hy⟩
  have hpm:=List.mem_of_getElem? hzj
  have hne:x ≠ y:=nj hnd hpm
  have mx:=List.mem_of_getElem? hx
  have my:=List.mem_of_mem_drop (List.mem_of_getElem? hy)
  have bx:=hwm x mx
  have by':=hwm y my
  have hjl:j < 23:=by have:=(List.getElem?_eq_some_iff.mp hx).1; exact zo228 hwl this
  have hln:=hL.len
  have f1:=hL.few x (by exact zo1 bx) bx.2
  have f2:=hL.few y (by exact zo1 by') by'.2
  have g1:=kE (L:=L) (t:=x) (by exact zo1 bx) (by rw [hln]; exact bx.2)
  refine ⟨.lst (L.map a_),rfl,x,rfl,(x - 1).toNat,.lst ((bg L x).map dLk),g1.1,g1.2,.lst (L.map a_),(bg L x).map dLk,rfl,rfl,rfl,by rw [List.length_map]; exact zo26 hal hil hjl f1,?_⟩
  have e1:iA ([] ++ [(x - 1).toNat]) (.lst (L.map a_)) (.lst ((bg L x).map dLk ++ [D.tup [.int y,.int (i:Int)]])) = .lst ((b_ L x (y,(i:Int))).map a_):=by
    show (match (L.map a_)[(x - 1).toNat]? with | some e=>D.lst ((L.map a_).set (x - 1).toNat _) | none=>_) = _
    rw [g1.2]
    show D.lst ((L.map a_).set (x - 1).toNat (.lst ((bg L x).map dLk ++ [dLk (y,(i:Int))]))) = _
    rw [n_]
  rw [e1]
  have hy1':y ≤ ((b_ L x (y,(i:Int))).length:Int):=by rw [gO,hln]; exact by'.2
  have g2:=kE (L:=b_ L x (y,(i:Int))) (t:=y) (by exact zo1 by') hy1'
  have hry:(bg (b_ L x (y,(i:Int))) y).length ≤ 23 * i + j:=by rw [eS (by exact zo1 bx) (by rw [hln]; exact bx.2) (by exact zo1 by'),if_neg (fun z=>hne z.symm)]; exact f2
  refine ⟨.lst ((b_ L x (y,(i:Int))).map a_),rfl,y,rfl,(y - 1).toNat,.lst ((bg (b_ L x (y,(i:Int))) y).map dLk),g2.1,g2.2,.lst ((b_ L x (y,(i:Int))).map a_),(bg (b_ L x (y,(i:Int))) y).map dLk,rfl,rfl,rfl,by rw [List.length_map]; exact zo26 hal hil hjl hry,?_⟩
  have e2:iA ([] ++ [(y - 1).toNat]) (.lst ((b_ L x (y,(i:Int))).map a_)) (.lst ((bg (b_ L x (y,(i:Int))) y).map dLk ++ [D.tup [.int x,.int (i:Int)]])) = .lst ((b_ (b_ L x (y,(i:Int))) y (x,(i:Int))).map a_):=by
    show (match ((b_ L x (y,(i:Int))).map a_)[(y - 1).toNat]? with | some e=>D.lst (((b_ L x (y,(i:Int))).map a_).set (y - 1).toNat _) | none=>_) = _
    rw [g2.2]
    show D.lst (((b_ L x (y,(i:Int))).map a_).set (y - 1).toNat (.lst ((bg (b_ L x (y,(i:Int))) y).map dLk ++ [dLk (x,(i:Int))]))) = _
    rw [n_]
  rw [e2]
  have grow:∀ (s:Int) m,1 ≤ s → m ∈ bg L s → m ∈ bg (b_ (b_ L x (y,(i:Int))) y (x,(i:Int))) s:=fun s m s0 hm=>kh (by exact zo1 by') hy1' s0 (kh (by exact zo1 bx) (by rw [hln]; exact bx.2) s0 hm)
  have lx:LkOk ps.length as.length (x,(i:Int)):=⟨by show 1 ≤ x; exact zo1 bx,bx.2,by show 0 ≤ (i:Int); exact pY,by show (i:Int) < _; exact zo96 hil⟩
  have ly:LkOk ps.length as.length (y,(i:Int)):=⟨by show 1 ≤ y; exact zo1 by',by'.2,by show 0 ≤ (i:Int); exact pY,by show (i:Int) < _; exact zo96 hil⟩
  refine ⟨_,_,_,rfl,hL.add (hjn x mx y my hne) (hjn y my x mx fun z=>hne z.symm) lx ly,fun k b hk hb p hp2=>?_,fun p hp2=>?_⟩
  · have hm:=hC k b hk hb p hp2
    have he2:=(ha.ok b (List.mem_of_getElem? hb)).ends
    have:=cD hT he2 (fF hp2).1
    exact grow p.1 _ (by exact zo1 this) hm
  · rw [List.take_add_one,hzj] at hp2
    rcases List.mem_append.mp hp2 with z | z
    · have:=hwm p.1 (fF (List.mem_of_mem_take z)).1
      exact grow p.1 _ (by exact zo1 this) (hp p z)
    · have e:p = (x,y):=by simpa using z
      rw [e]
      show (y,(i:Int)) ∈ bg _ x
      refine kh (by exact zo1 by') hy1' (by exact zo1 bx) ?_
      rw [eS (by exact zo1 bx) (by rw [hln]; exact bx.2) (by exact zo1 bx),if_pos rfl]
      exact List.mem_append_right _ (.head _)
end
end K47
namespace K47
open PySem L2
section
variable {P:Program} {w:World} {K:PySem.W.Frag} {mg:Str → Option Value} {base:Heap} {A:Adr}
abbrev JoP (ps:List Int) (as:List Ask):Int → Int → Int → Prop:=fun a b k=>cN ps as a b k = true ∧ 0 ≤ k ∧ k < (as.length:Int)
structure Clo (L:Lks) (n:Nat) (cs:bw):Prop where
  cl:∀ (x:Int) u,aV cs x = some u → ∀ l ∈ bg L x,∃ v,aV cs l.1 = some v
  rt:∀ (x:Int) u,aV cs x = some u → ∀ l ∈ bg L x,∃ p p' r,Back cs x p r ∧ Back cs l.1 p' r
def Ext (cs cs':bw):Prop:=∀ (x:Int) u,aV cs x = some u → aV cs' x = some u
theorem lJ {cs cs':bw} {x r:Int} {p:List (Int × Int)} (he:Ext cs cs') (h:Back cs x p r):Back cs' x p r:=by
  induction h with
  | root e=>exact .root (he _ _ e)
  | step e _ ih=>exact .step (he _ _ e) ih
structure Rch (ps:List Int) (as:List Ask) (L:Lks) (cs:bw) (f:Int) (cs':bw) (W:List Int) (now:Option Int):Prop where
  cm:Cm ps.length (JoP ps as) cs'
  ex:Ext cs cs'
  nw:∀ (x:Int) u,aV cs' x = some u → aV cs x = none → ∃ p,Back cs' x p f
  fs:∃ u,aV cs' f = some u
  wt:∀ x ∈ W,aV cs x = none ∧ ∃ u,aV cs' x = some u
  dn:∀ (x:Int) u,aV cs' x = some u → aV cs x = none → ¬ x ∈ W → now ≠ some x → ∀ l ∈ bg L x,∃ v,aV cs' l.1 = some v
def sM:SpD:=fun ds q=>∃ ps as L cs f b,ds = [.int f,.lst (L.map a_),dj cs] ∧ LnOk ps as b L ∧ b ≤ 900 ∧ ps.length ≤ 23 ∧ Cm ps.length (JoP ps as) cs ∧ Clo L ps.length cs ∧ aV cs f = none ∧ 1 ≤ f ∧ f ≤ (ps.length:Int) ∧ ∀ cs',Cm ps.length (JoP ps as) cs' → Clo L ps.length cs' → Ext cs cs' → (∃ u,aV cs' f = some u) → q .non [some (dj cs')]
theorem Rch.done {ps:List Int} {as:List Ask} {L:Lks} {cs cs':bw} {f:Int} {b:Nat} (hL:LnOk ps as b L) (hc:Cm ps.length (JoP ps as) cs) (hcl:Clo L ps.length cs) (h:Rch ps as L cs f cs' [] none):Clo L ps.length cs':=by
  have old:∀ (x:Int) u,aV cs x = some u → ∀ l ∈ bg L x,(∃ v,aV cs' l.1 = some v) ∧ ∃ p p' r,Back cs' x p r ∧ Back cs' l.1 p' r:=fun x u e l hl=>by
    obtain ⟨v,hv⟩:=hcl.cl x u e l hl
    obtain ⟨p,p',r,b1,b2⟩:=hcl.rt x u e l hl
    exact ⟨⟨v,h.ex _ _ hv⟩,p,p',r,lJ h.ex b1,lJ h.ex b2⟩
  have new:∀ (x:Int) u,aV cs' x = some u → aV cs x = none → ∀ l ∈ bg L x,(∃ v,aV cs' l.1 = some v) ∧ ∃ p p' r,Back cs' x p r ∧ Back cs' l.1 p' r:=fun x u e en l hl=>by
    have hx:=h.cm.rng e
    obtain ⟨v,hv⟩:=h.dn x u e en (by simp) (by simp) l hl
    have ln:aV cs l.1 = none:=by
      cases e2:aV cs l.1 with
      | none=>rfl
      | some w =>
        have:=hL.sym x hx.1 hx.2 l hl
        obtain ⟨v2,hv2⟩:=hcl.cl l.1 w e2 _ this
        rw [en] at hv2; cases hv2
    obtain ⟨p,b1⟩:=h.nw x u e en
    obtain ⟨p',b2⟩:=h.nw l.1 v hv ln
    exact ⟨⟨v,hv⟩,p,p',f,b1,b2⟩
  refine ⟨fun x u e l hl=>?_,fun x u e l hl=>?_⟩
  · cases en:aV cs x with
    | none=>exact (new x u e en l hl).1
    | some w=>exact (old x w en l hl).1
  · cases en:aV cs x with
    | none=>exact (new x u e en l hl).2
    | some w=>exact (old x w en l hl).2
theorem kS (cs:bw):(cI cs).length = cs.length:=List.length_map ..
theorem wY (T:Txt K mg A):FnOk P w K mg base CX0 1 A.f_q10 A.d_q10 ["first","links","came"] (bt [false,false,true] false (sM)):=by
  have S:=vq
  refine fnD T.F_q10 S ⟨[false,false,true],[false,false,true,true,false,false,false],false⟩ _ ?hl rfl rfl fun cdv Ar outer s H E hr=>⟨_,(ac (ft (i:=2) (cH hr) rfl kz (aa 0))
      (ac (bv (i:=3) S.nd rfl (Or.inl rfl) (b6 (ae (aa 0) ah)))
      (ag (cu PassesOwn.never (QT.bor [3] (ig (aa 3))) (ac (aR (i:=4) S.nd rfl (Or.inl rfl) (lT (i:=3) rfl))
      (ag (bH PassesOwn.never rfl (bn (aw ak dIx (aa 1) (aI bR dI (aa 4) ad) (fun _ _=>rfl))) (bU rfl (aE (az (i:=5) S.nd rfl (Or.inl rfl)) (aE (az (i:=6) S.nd rfl (Or.inl rfl)) bC)) (aj (aj aW))) (ag (bf (QT.bor [2] (aS (eX (cH hr)) nK (aa 5) (aa 2) rfl)) (ac (ft (i:=2) (cH hr) rfl (b8 (ae (aa 4) (ae (aa 6) ah))) (aa 5))
      (ag (bP (i:=3) rfl (QE.qf (aa 5))))) aQ))))))))),fun ds q h=>?_⟩
  case hl=>intro ds q h; obtain ⟨ps,as,L,cs,f,b,rfl,_⟩:=h; rfl
  obtain ⟨ps,as,L,cs,f,b,rfl,hL,hb,hn,hc,hcl,hf,f0,f1,q0⟩:=h
  have hfew:=hc.few
  have e0:=li (v:=none) hf
  refine ⟨rfl,.inl f,rfl,by rw [kS]; exact qk hn hfew,?_⟩
  have e00:D.dic (br (cI cs) (.inl f)) (L2.putAt (cI cs) (gB cs) (.inl f) D.non) = dj (cs ++ [(f,none)]):=by
    unfold dj; rw [← e0.1,← e0.2]; rfl
  rw [e00]
  have hR0:Rch ps as L cs f (cs ++ [(f,none)]) [f] none:=by
    have one:∀ (x:Int) u,aV (cs ++ [(f,none)]) x = some u → aV cs x = none → x = f ∧ u = none:=fun x u e en=>by
      rw [bB hf] at e
      split at e
      · rename_i z; cases e; exact ⟨z.symm,rfl⟩
      · rw [en] at e; cases e
    have hff:aV (cs ++ [(f,none)]) f = some none:=by rw [bB hf,if_pos rfl]
    refine ⟨.root hc hf f0 f1,fun x u e=>cL hf e,fun x u e en=>?_,⟨_,hff⟩,fun x hx=>?_,fun x u e en hx _=>?_⟩
    · obtain ⟨rfl,rfl⟩:=one x u e en; exact ⟨[],.root e⟩
    · rw [List.mem_singleton.mp hx]; exact ⟨hf,_,hff⟩
    · exact absurd (by rw [(one x u e en).1]; exact .head _) hx
  refine ⟨rfl,?_⟩
  refine ⟨fun m ρ=>∃ cs' W v4 v5 v6,ρ = [some (.int f),some (.lst (L.map a_)),some (dj cs'),some (ai W),v4,v5,v6] ∧ Rch ps as L cs f cs' W none ∧ W.length ≤ cs'.length ∧ m = 2 * (ps.length - cs'.length) + W.length,⟨_,cs ++ [(f,none)],[f],_,_,_,rfl,hR0,by rw [List.length_append]; show 1 ≤ _ + 1; exact zo340,rfl⟩,?_⟩
  rintro m ρ ⟨cs',W,v4,v5,v6,rfl,hR,hWl,rfl⟩
  rcases List.eq_nil_or_concat W with rfl | ⟨W0,t,rfl⟩
  · exact q0 cs' hR.cm (hR.done hL hc hcl) hR.ex hR.fs
  have hwt:=hR.wt t (by simp)
  obtain ⟨tn,u0,tu⟩:=hwt
  have tr:=hR.cm.rng tu
  have hfew':=hR.cm.few
  have em:(W0.concat t).map D.int = W0.map D.int ++ [.int t]:=by rw [List.concat_eq_append,List.map_append]; rfl
  have hne:(!((W0.concat t).map D.int).isEmpty) = true:=by rw [em]; cases W0 <;> rfl
  refine (bQ (c:=(!((W0.concat t).map D.int).isEmpty) = true) (fun _=>?_) (fun c=>absurd hne c))
  have hg:((W0.concat t).map D.int)[((W0.concat t).map D.int).length - 1]? = some (.int t):=by
    rw [em,List.length_append]
    show (W0.map D.int ++ [D.int t])[(W0.map D.int).length + 1 - 1]? = _
    rw [Nat.add_sub_cancel,List.getElem?_append_right (Nat.le_refl _),Nat.sub_self]; rfl
  have hdl:((W0.concat t).map D.int).dropLast = W0.map D.int:=by rw [em,List.dropLast_concat]
  show (match ((W0.concat t).map D.int)[((W0.concat t).map D.int).length - 1]? with | some d=>_ | none=>False)
  rw [hg,hdl]
  refine ⟨rfl,?_⟩
  have g1:=kE (L:=L) (t:=t) tr.1 (by rw [hL.len]; exact tr.2)
  have hrl:=hL.few t tr.1 tr.2
  refine bi (show atI (L.map a_) (t - 1) = some (.lst ((bg L t).map dLk)) by unfold atI; rw [g1.1]; exact g1.2) ?_
  have hlen:(W0.concat t).length = W0.length + 1:=by rw [List.concat_eq_append,List.length_append]; rfl
  refine ⟨fun j ρ=>∃ cs2 W2 v5 v6,ρ = [some (.int f),some (.lst (L.map a_)),some (dj cs2),some (ai W2),some (.int t),v5,v6] ∧ Rch ps as L cs f cs2 W2 (some t) ∧ 2 * (ps.length - cs2.length) + W2.length + 1 ≤ 2 * (ps.length - cs'.length) + (W0.concat t).length ∧ W2.length ≤ cs2.length ∧ (∃ u,aV cs2 t = some u) ∧ ∀ l ∈ (bg L t).take j,∃ v,aV cs2 l.1 = some v,?_,?_,?_⟩
  · refine ⟨cs',W0,_,_,rfl,⟨hR.cm,hR.ex,hR.nw,hR.fs,fun x hx=>hR.wt x (by rw [List.concat_eq_append]; exact List.mem_append_left _ hx),fun x u e en hx hnow=>hR.dn x u e en (fun z=>?_) (by simp)⟩,by exact zo146 hlen,by exact zo220 hWl hlen,⟨u0,tu⟩,fun l h=>(by cases h)⟩
    rw [List.concat_eq_append] at z
    rcases List.mem_append.mp z with z | z
    · exact hx z
    · exact hnow (by rw [List.mem_singleton.mp z])
  · rintro j d ρ hd ⟨cs2,W2,v5,v6,rfl,hR2,hm,hW,⟨u2,tu2⟩,hcov⟩
    obtain ⟨l,hl,rfl⟩:∃ l,(bg L t)[j]? = some l ∧ dLk l = d:=by rw [List.getElem?_map] at hd; exact Option.map_eq_some_iff.mp hd
    have hlm:=List.mem_of_getElem? hl
    obtain ⟨hjo,hlk⟩:=hL.row t tr.1 tr.2 l hlm
    have hf2:=hR2.cm.few
    have tk:∀ cs3:bw,Ext cs2 cs3 → (∃ v,aV cs3 l.1 = some v) → ∀ m ∈ (bg L t).take (j + 1),∃ v,aV cs3 m.1 = some v:=fun cs3 hE hv m hm2=>by
      rw [List.take_add_one,hl] at hm2
      rcases List.mem_append.mp hm2 with z | z
      · obtain ⟨v,e⟩:=hcov m z; exact ⟨v,hE _ _ e⟩
      · have e:m = l:=by simpa using z
        rw [e]; exact hv
    refine ⟨.inl l.1,rfl,?_⟩
    refine (bQ (c:=(!aN (cI cs2) (.inl l.1)) = true) (fun c=>?_) (fun c=>?_))
    rotate_left
    · rw [cX] at c
      have:(aV cs2 l.1).isSome = true:=by
        cases e:aV cs2 l.1 with
        | none=>rw [e] at c; exact absurd rfl c
        | some v=>rfl
      exact ⟨cs2,W2,_,_,rfl,hR2,hm,hW,⟨u2,tu2⟩,tk cs2 (fun _ _ e=>e) (Option.isSome_iff_exists.mp this)⟩
    rw [cX] at c
    have hnone:aV cs2 l.1 = none:=by
      cases e:aV cs2 l.1 with
      | none=>rfl
      | some v=>rw [e] at c; cases c
    have ep:=li (v:=some (t,l.2)) hnone
    refine ⟨rfl,.inl l.1,rfl,by rw [kS]; exact qk hn hf2,?_⟩
    have epp:D.dic (br (cI cs2) (.inl l.1)) (L2.putAt (cI cs2) (gB cs2) (.inl l.1) (D.tup [.int t,.int l.2])) = dj (cs2 ++ [(l.1,some (t,l.2))]):=by
      unfold dj; rw [← ep.1,← ep.2]; rfl
    rw [epp]
    refine ⟨rfl,by rw [List.length_map]; exact zo137 hn hW hf2,?_⟩
    have hE:Ext cs2 (cs2 ++ [(l.1,some (t,l.2))]):=fun x u e=>cL hnone e
    have hnew:aV (cs2 ++ [(l.1,some (t,l.2))]) l.1 = some (some (t,l.2)):=by rw [bB hnone,if_pos rfl]
    have hsy:JoP ps as l.1 t l.2:=⟨(hL.row l.1 hlk.t0 hlk.t1 _ (hL.sym t tr.1 tr.2 l hlm)).1,hlk.k0,hlk.k1⟩
    have ln:aV cs l.1 = none:=by
      cases e:aV cs l.1 with
      | none=>rfl
      | some v=>rw [hR2.ex _ _ e] at hnone; cases hnone
    refine ⟨cs2 ++ [(l.1,some (t,l.2))],W2 ++ [l.1],some (.int l.1),some (.int l.2),?_,⟨.link hR2.cm hnone hlk.t0 hlk.t1 tu2 hsy,fun x u e=>hE _ _ (hR2.ex _ _ e),fun x u e en=>?_,?_,fun x hx=>?_,fun x u e en hx hnow m hm2=>?_⟩,?_,?_,⟨u2,hE _ _ tu2⟩,tk _ hE ⟨_,hnew⟩⟩
    · rw [show ai (W2 ++ [l.1]) = .lst (W2.map D.int ++ [.int l.1]) by unfold ai; rw [List.map_append]; rfl]; rfl
    · rw [bB hnone] at e
      split at e
      · rename_i z
        obtain ⟨p,b⟩:=hR2.nw t u2 tu2 tn
        rw [← z]
        exact ⟨(l.1,l.2) :: p,.step hnew (b.keep hnone)⟩
      · obtain ⟨p,b⟩:=hR2.nw x u e en
        exact ⟨p,b.keep hnone⟩
    · obtain ⟨u,e⟩:=hR2.fs; exact ⟨u,hE _ _ e⟩
    · rcases List.mem_append.mp hx with z | z
      · obtain ⟨a1,u,a2⟩:=hR2.wt x z; exact ⟨a1,u,hE _ _ a2⟩
      · rw [List.mem_singleton.mp z]; exact ⟨ln,_,hnew⟩
    · have hxl : ¬ l.1 = x:=fun z=>hx (by rw [← z]; exact List.mem_append_right _ (.head _))
      rw [bB hnone,if_neg hxl] at e
      obtain ⟨v,ev⟩:=hR2.dn x u e en (fun z=>hx (List.mem_append_left _ z)) hnow m hm2
      exact ⟨v,hE _ _ ev⟩
    · have hf3:=(Cm.link hR2.cm hnone hlk.t0 hlk.t1 tu2 hsy).few
      rw [List.length_append] at hf3 ⊢
      rw [List.length_append]
      show 2 * (ps.length - (cs2.length + 1)) + (W2.length + 1) + 1 ≤ _
      have:cs2.length + 1 ≤ ps.length:=hf3
      exact zo18 hlen hm this
    · rw [List.length_append,List.length_append]; show W2.length + 1 ≤ cs2.length + 1; exact zo38 hW
  · rintro ρ ⟨cs2,W2,v5,v6,rfl,hR2,hm,hW,⟨u2,tu2⟩,hcov⟩
    rw [List.length_map,List.take_length] at hcov
    refine ⟨2 * (ps.length - cs2.length) + W2.length,by exact zo88 hlen hm,cs2,W2,_,_,_,rfl,⟨hR2.cm,hR2.ex,hR2.nw,hR2.fs,hR2.wt,fun x u e en hx _ m hm2=>?_⟩,hW,rfl⟩
    by_cases ex:x = t
    · rw [ex] at hm2; exact hcov m hm2
    · exact hR2.dn x u e en hx (fun z=>ex (by injection z with z; exact z.symm)) m hm2
end
end K47
namespace K47
open PySem L2
section
variable {P:Program} {w:World} {K:PySem.W.Frag} {mg:Str → Option Value} {base:Heap} {A:Adr}
def wT:SpD:=fun ds q=>∃ cs x p r,ds = [dj cs,.int x] ∧ Back cs x p r ∧ p.length ≤ 23 ∧ q (a_ p) []
theorem qr (ls:List (Int × Int)) (l:Int × Int):D.lst (ls.map dLk ++ [dLk l]) = a_ (ls ++ [l]):=by unfold a_; rw [List.map_append]; rfl
theorem qy (T:Txt K mg A):FnOk P w K mg base CX0 1 A.f_q15 A.d_q15 ["came","tie"] (bt [false,false] true (wT)):=by
  have S:=wA
  refine fnD T.F_q15 S ⟨[false,false],[false,false,true,false,false],true⟩ _ ?hl rfl rfl fun cdv Ar outer s H E hr=>⟨_,(ac (bv (i:=2) S.nd rfl (Or.inl rfl) (b6 ah))
      (ac (cu PassesOwn.never (aS sJ dNotN (d5 (cH hr) (aa 0) (aa 1)) kz (aP _)) (ac (eE (d5 (cH hr) (aa 0) (aa 1)) (bU rfl (aE (az (i:=3) S.nd rfl (Or.inl rfl)) (aE (az (i:=4) S.nd rfl (Or.inl rfl)) bC)) (aj (aj aW))))
      (ac (bP (i:=2) rfl (QE.qf (b8 (ae (aa 1) (ae (aa 4) ah)))))
      (ag (aR (i:=1) S.nd rfl (Or.inl rfl) (aa 3))))))
      (ag (bE (cb 2))))),fun ds q h=>?_⟩
  case hl=>intro ds q h; obtain ⟨cs,x,p,r,rfl,_⟩:=h; rfl
  obtain ⟨cs,x,p,r,rfl,hB,hl,q0⟩:=h
  refine ⟨rfl,?_⟩
  refine ⟨fun m ρ=>∃ acc y p' v3 v4,ρ = [some (dj cs),some (.int y),some (a_ acc),v3,v4] ∧ Back cs y p' r ∧ p = acc ++ p' ∧ m = p'.length,⟨_,[],x,p,_,_,rfl,hB,rfl,rfl⟩,?_⟩
  rintro m ρ ⟨acc,y,p',v3,v4,rfl,hB',rfl,rfl⟩
  rw [List.length_append] at hl
  cases hB' with
  | root e =>
    refine ⟨.inl r,.non,rfl,by rw [cW,e]; rfl,?_⟩
    rw [List.append_nil] at q0
    exact q0
  | @step _ t k _ p2 e hb =>
    refine ⟨.inl y,dLk (t,k),rfl,by rw [cW,e]; rfl,?_⟩
    refine ⟨.inl y,dLk (t,k),rfl,by rw [cW,e]; rfl,?_⟩
    refine ⟨rfl,by show (acc.map dLk).length < 1000; rw [List.length_map]; exact zo335 hl,?_⟩
    refine ⟨p2.length,Nat.lt_succ_self _,acc ++ [(y,k)],t,p2,some (.int t),some (.int k),?_,hb,by rw [List.append_assoc]; rfl,rfl⟩
    rw [← qr]; rfl
end
end K47
namespace K47
open PySem L2
section
variable {P:Program} {w:World} {K:PySem.W.Frag} {mg:Str → Option Value} {base:Heap} {A:Adr}
def dF (cs:bw) (x:Int):Int:=match aV cs x with
  | some (some l)=>l.1
  | _=>0
def tnF (ps:List Int) (cs:bw):D → Option D
  | .tup [.int a,.int _]=>if aF ps a (dF cs a) = true then some (.int 1) else none
  | _=>none
theorem pC {ps:List Int} {cs:bw} {x r:Int} {p:List (Int × Int)} (h:Back cs x p r):(((p.map dLk).filterMap (tnF ps cs)).length % 2 = 0) ↔ twP ps p r = false:=by
  induction h with
  | root e=>exact ⟨fun _=>rfl,fun _=>rfl⟩
  | @step x t k r p e hb ih =>
    have ep:dF cs x = t:=by unfold dF; rw [e]
    have ef:tnF ps cs (dLk (x,k)) = if aF ps x (dF cs x) = true then some (.int 1) else none:=rfl
    rw [List.map_cons,List.filterMap_cons,ef,ep]
    show _ ↔ (aF ps x (hdP p r) != twP ps p r) = false
    rw [hb.hd]
    cases aF ps x t with
    | true =>
      rw [if_pos rfl,List.length_cons]
      cases h2:twP ps p r with
      | true=>rw [h2] at ih; simp at ih ⊢; exact zo97 ih
      | false=>rw [h2] at ih; simp at ih ⊢; exact zo99 ih
    | false =>
      rw [if_neg (by decide)]
      rw [ih]
      cases twP ps p r <;> decide
theorem il {cs:bw} {x r:Int} {p:List (Int × Int)} (h:Back cs x p r):∀ l ∈ p,∃ t,aV cs l.1 = some (some (t,l.2)):=by
  induction h with
  | root e=>intro l hl; cases hl
  | step e _ ih =>
    intro l hl
    rcases List.mem_cons.mp hl with rfl | hl
    · exact ⟨_,e⟩
    · exact ih l hl
def rq:SpD:=fun ds q=>∃ ps rs as cs x p r,ds = [aL ps rs,dj cs,.int x] ∧ Tree ps rs ∧ Cm ps.length (JoP ps as) cs ∧ Back cs x p r ∧ p.length ≤ 23 ∧ q (.str (txt (!twP ps p r))) []
theorem xK (T:Txt K mg A):FnOk P w K mg base CX0 6 A.f_q30 A.d_q30 ["tree","came","tie"] (bt [false,false,false] false (rq)):=by
  have G_q11:=pE (P:=P) (w:=w) (base:=base) T
  have G_q15:=qy (P:=P) (w:=w) (base:=base) T
  have S:=wH
  refine fnD T.F_q30 S ⟨[false,false,false],[false,false,false,false],false⟩ _ ?hl rfl rfl fun cdv Ar outer s H E hr=>⟨_,(ac (fi (i:=3) ["low","number"] [0,1] ⟨rfl,rfl,by decide +kernel,rfl,rfl,(by first | exact trivial | exact ⟨rfl,trivial⟩ | exact ⟨rfl,rfl,trivial⟩ | exact ⟨rfl,rfl,rfl,trivial⟩ | exact ⟨rfl,rfl,rfl,rfl,trivial⟩),rfl⟩ rfl S.nd rfl (Or.inl rfl) (bn (QF.qe (bj (G_q15) (hr.mono (by decide)) rfl T.m_q15 T.k_q15 T.b_q15 (ao (aa 1) (ao (aa 2) ar))))) (mT (dR (bD 0) (dR (bD 1) jS)) (aj (aj aW))) (fun _ _ _ _=>⟨(ic rfl (ck (bc (i:=0) (show List.Nodup (["low","number","tree","came"]:List Str) by decide +kernel) rfl (Or.inl rfl)) (ck (bc (i:=1) (show List.Nodup (["low","number","tree","came"]:List Str) by decide +kernel) rfl (Or.inl rfl)) fY))),(e7 (ba (av (G_q11) (hr.mono (by decide)) rfl T.m_q11 T.k_q11 T.b_q11 (ao (aa 2) (ao (aa 0) (ao (aw ak dIx (d5 (cH hr) (aa 3) (aa 0)) ad (fun _ _=>rfl)) ar)))))),ad⟩))
      (ag (aU (pG (aS (cR hr.units) dEq (aI dh dIC (aA aq b3 rfl T.z_len a9 (ae (aa 3) ah)) ad) ad (aP _)) cP cP)))),fun ds q h=>?_⟩
  case hl=>intro ds q h; obtain ⟨ps,rs,as,cs,x,p,r,rfl,_⟩:=h; rfl
  obtain ⟨ps,rs,as,cs,x,p,r,rfl,hT,hc,hB,hl,q0⟩:=h
  refine ⟨cs,x,p,r,rfl,hB,hl,?_⟩
  refine ⟨by rw [List.length_map]; exact sk hl,?_⟩
  refine dU (tnF ps cs) ?_ ?_
  · intro d hd k hk
    obtain ⟨l,hm,rfl⟩:=List.mem_map.mp hd
    obtain ⟨t,e⟩:=il hB l hm
    have r1:=hc.rng e
    obtain ⟨_,u,et⟩:=hc.par e
    have r2:=hc.rng et
    have ep:dF cs l.1 = t:=by unfold dF; rw [e]
    have hk':k (if aF ps l.1 (dF cs l.1) = true then some (.int 1) else none):=hk
    rw [ep] at hk'
    refine ⟨.inl l.1,dLk (t,l.2),rfl,by rw [cW,e]; rfl,?_⟩
    refine ⟨ps,rs,l.1,t,rfl,hT,r1.1,r1.2,r2.1,r2.2,?_⟩
    cases ea:aF ps l.1 t with
    | true=>rw [ea] at hk'; exact hk'
    | false=>rw [ea] at hk'; exact hk'
  have ht:=pC (ps:=ps) hB
  generalize (p.map dLk).filterMap (tnF ps cs) = ts at ht
  refine ⟨(show (0:Int) < 2 by decide),?_⟩
  refine (bQ (c:=decide (((ts.length:Nat):Int) % 2 = 0) = true) (fun c=>?_) (fun c=>?_))
  · rw [ht.mp (by have:=of_decide_eq_true c; exact zo275 this)] at q0
    exact q0
  · have h1 : ¬ ts.length % 2 = 0:=fun z=>c (decide_eq_true (by exact zo253 z))
    have h2:twP ps p r = true:=by
      cases e:twP ps p r with
      | true=>rfl
      | false=>exact absurd (ht.mpr e) h1
    rw [h2] at q0
    exact q0
end
end K47
namespace K47
open PySem L2
section
variable {P:Program} {w:World} {K:PySem.W.Frag} {mg:Str → Option Value} {base:Heap} {A:Adr}
def tD:SpD:=fun ds q=>∃ ps rs as L bs b,ds = [aL ps rs,.lst (L.map a_),dTx bs] ∧ Tree ps rs ∧ LnOk ps as b L ∧ bs.length = ps.length ∧
  ((∀ x:Int,1 ≤ x → x ≤ ps.length → ∀ l ∈ bg L x,(wd bs x != wd bs l.1) = aF ps x l.1) → q .non []) ∧
  ∀ (x:Int) l,1 ≤ x → x ≤ ps.length → l ∈ bg L x → (((wd bs x != wd bs l.1) != aF ps x l.1) = true) → q (.tup [.int x,.int l.1,.int l.2]) []
theorem ok_q6 (T:Txt K mg A):FnOk P w K mg base CX0 6 A.f_q6 A.d_q6 ["tree","links","texts"] (bt [false,false,false] false (tD)):=by
  have G_q11:=pE (P:=P) (w:=w) (base:=base) T
  have S:=sc_q6
  refine fnD T.F_q6 S ⟨[false,false,false],[false,false,false,false,false,false,false],false⟩ _ ?hl rfl rfl fun cdv Ar outer s H E hr=>⟨_,(ac (bH PassesOwn.never rfl (fC rfl T.z_enumerate (ae (aa 1) ah)) (bU rfl (aE (az (i:=3) S.nd rfl (Or.inl rfl)) (aE (az (i:=4) S.nd rfl (Or.inl rfl)) bC)) (aj (aj aW))) (ag (bH PassesOwn.never rfl (bn (aa 4)) (bU rfl (aE (az (i:=5) S.nd rfl (Or.inl rfl)) (aE (az (i:=6) S.nd rfl (Or.inl rfl)) bC)) (aj (aj aW))) (ag (bf (aS (ci hr.units) dNe (cS (ci hr.units) dNe (aw ak dIx (aa 2) (aa 3) (fun _ _=>rfl)) (aw ak dIx (aa 2) (aI bR dI (aa 5) ad) (fun _ _=>rfl)) (aP _)) (av (G_q11) (hr.mono (by decide)) rfl T.m_q11 T.k_q11 T.b_q11 (ao (aa 0) (ao (aI bh dI (aa 3) ad) (ao (aa 5) ar)))) (aP _)) (ag (aU (b8 (ae (aI bh dI (aa 3) ad) (ae (aa 5) (ae (aa 6) ah)))))) aQ)))))
      (ag (aU kz))),fun ds q h=>?_⟩
  case hl=>intro ds q h; obtain ⟨ps,rs,as,L,bs,b,rfl,_⟩:=h; rfl
  obtain ⟨ps,rs,as,L,bs,b,rfl,hT,hL,hb,q0,q1⟩:=h
  have hti:=hT.hi
  have hln:=hL.len
  refine ⟨fun i ρ=>∃ v3 v4 v5 v6,ρ = [some (aL ps rs),some (.lst (L.map a_)),some (dTx bs),v3,v4,v5,v6] ∧ ∀ x:Int,1 ≤ x → x ≤ (i:Int) → ∀ l ∈ bg L x,(wd bs x != wd bs l.1) = aF ps x l.1,⟨_,_,_,_,rfl,fun x h0 h1=>by (first|lia|omega)⟩,?_,?_⟩
  rotate_left
  · rintro ρ ⟨v3,v4,v5,v6,rfl,hA⟩
    rw [ib,List.length_map,hln] at hA
    exact q0 hA
  rintro i d ρ hd ⟨v3,v4,v5,v6,rfl,hA⟩
  obtain ⟨d',hd',rfl⟩:=eR hd
  have hil:i < L.length:=by have:=(List.getElem?_eq_some_iff.mp hd').1; rw [List.length_map] at this; exact this
  have g1:=kE (L:=L) (t:=(i:Int) + 1) (by exact zo91) (by exact zo326 hil)
  have ed:d' = .lst ((bg L ((i:Int) + 1)).map dLk):=by
    have:=g1.2
    rw [show ((i:Int) + 1 - 1).toNat = i by exact zo131,hd'] at this
    exact Option.some.inj this
  subst ed
  refine ⟨fun j ρ=>∃ v5 v6,ρ = [some (aL ps rs),some (.lst (L.map a_)),some (dTx bs),some (.int (i:Int)),some (.lst ((bg L ((i:Int) + 1)).map dLk)),v5,v6] ∧ ∀ l ∈ (bg L ((i:Int) + 1)).take j,(wd bs ((i:Int) + 1) != wd bs l.1) = aF ps ((i:Int) + 1) l.1,⟨_,_,rfl,fun l h=>(by cases h)⟩,?_,?_⟩
  rotate_left
  · rintro ρ ⟨v5,v6,rfl,hp⟩
    rw [List.length_map,List.take_length] at hp
    refine ⟨_,_,_,_,rfl,fun x x0 x1 l hl=>?_⟩
    by_cases e:x = (i:Int) + 1
    · rw [e] at hl ⊢; exact hp l hl
    · exact hA x x0 (by exact zo212 x1 e) l hl
  rintro j d ρ hd ⟨v5,v6,rfl,hp⟩
  obtain ⟨l,hl,rfl⟩:∃ l,(bg L ((i:Int) + 1))[j]? = some l ∧ dLk l = d:=by rw [List.getElem?_map] at hd; exact Option.map_eq_some_iff.mp hd
  have hlm:=List.mem_of_getElem? hl
  obtain ⟨_,hlk⟩:=hL.row ((i:Int) + 1) (by exact zo91) (by exact zo68 hln hil) l hlm
  have l0:=hlk.t0; have l1:=hlk.t1
  have a1:=nD (bs:=bs) (t:=(i:Int) + 1) (by exact zo358) (by exact zo254 hb hln hil)
  rw [show (i:Int) + 1 - 1 = (i:Int) by exact uz] at a1
  have a2:=nD (bs:=bs) (t:=l.1) (by exact nJ l0) (by exact zo250 hb hln l1)
  refine bi a1 ?_
  refine bi a2 ?_
  refine ⟨d_ _,d_ _,?_⟩
  have w1:wd bs ((i:Int) + 1) = bs.getD (i:Int).toNat false:=by unfold wd; rw [show (i:Int) + 1 - 1 = (i:Int) by exact uz]
  have w2:wd bs l.1 = bs.getD (l.1 - 1).toNat false:=rfl
  have hq1:=q1 ((i:Int) + 1) l (by exact zo91) (by exact zo68 hln hil) hlm
  have go:(wd bs ((i:Int) + 1) != wd bs l.1) = aF ps ((i:Int) + 1) l.1 → ∀ m ∈ (bg L ((i:Int) + 1)).take (j + 1),(wd bs ((i:Int) + 1) != wd bs m.1) = aF ps ((i:Int) + 1) m.1:=fun e m hm=>by
    rw [List.take_add_one,hl] at hm
    rcases List.mem_append.mp hm with z | z
    · exact hp m z
    · have em:m = l:=by simpa using z
      rw [em]; exact e
  generalize hG:(∀ m ∈ (bg L ((i:Int) + 1)).take (j + 1),(wd bs ((i:Int) + 1) != wd bs m.1) = aF ps ((i:Int) + 1) m.1) = Gd at go
  rw [lX]
  refine ⟨ps,rs,(i:Int) + 1,l.1,rfl,hT,by exact zo91,by exact zo68 hln hil,l0,l1,?_⟩
  rw [w1,w2] at hq1
  rw [w1,w2] at go
  generalize bs.getD (i:Int).toNat false = p1 at hq1 go
  generalize bs.getD (l.1 - 1).toNat false = p2 at hq1 go
  generalize aF ps ((i:Int) + 1) l.1 = p3 at hq1 go
  cases p1 <;> cases p2 <;> cases p3
  all_goals
    refine ⟨rfl,rfl,?_⟩
    first
    | exact hq1 rfl
    | exact ⟨_,_,rfl,hG.mpr (go rfl)⟩
end
end K47
namespace K47
open PySem L2
section
variable {P:Program} {w:World} {K:PySem.W.Frag} {mg:Str → Option Value} {base:Heap} {A:Adr}
theorem mH {cs:bw} {C:List (Int × Int)} {r:Int}:∀ {Q:List (Int × Int)} {x:Int},Back cs x (Q ++ C) r → dnP Q (hdP C r) = Q.reverse.map fun l=>(dF cs l.1,l.2)
  | [],_,_=>rfl
  | l :: Q,x,h=>by
    cases h with
    | @step _ t k _ _ e hb =>
      have hb':Back cs t (Q ++ C) r:=hb
      show dnP Q (hdP C r) ++ [(hdP Q (hdP C r),k)] = _
      rw [mH hb',List.reverse_cons,List.map_append]
      have h2:=hb'.hd
      rw [j_] at h2
      have ep:dF cs x = t:=by unfold dF; rw [e]
      rw [h2]
      show _ = _ ++ [(dF cs x,k)]
      rw [ep]
theorem io:∀ ls:List (Int × Int),imms (ls.map dLk) = true
  | []=>rfl
  | l :: ls=>by rw [List.map_cons,imms,io ls]; rfl
theorem wn (l:Int × Int):lay 1 (dLk l) = true:=rfl
theorem p6 (l:Int × Int):okD (dLk l) = true:=ki (wn l) (by decide)
theorem wU (a b:Int × Int):eqD (dLk a) (dLk b) = decide (a = b):=by
  obtain ⟨a1,a2⟩:=a; obtain ⟨b1,b2⟩:=b
  rw [Bool.eq_iff_iff,decide_eq_true_iff]
  unfold eqD dLk
  simp [toP,toPs,PyData.eqv,PyData.eqvAll]
def oY:SpD:=fun ds q=>∃ cs x y k p1 p2 r,ds = [dj cs,.int x,.int y,.int k] ∧ Back cs x p1 r ∧ Back cs y p2 r ∧ p1.length ≤ 23 ∧ p2.length ≤ 23 ∧ ∀ P Q C,p1 = P ++ C → p2 = Q ++ C → q (a_ (P ++ (dnP Q (hdP C r) ++ [(y,k)]))) []
theorem ok_q5 (T:Txt K mg A):FnOk P w K mg base CX0 2 A.f_q5 A.d_q5 ["came","one","other","closing"] (bt [false,false,false,false] true (oY)):=by
  have G_q15:=qy (P:=P) (w:=w) (base:=base) T
  have S:=sc_q5
  refine fnD T.F_q5 S ⟨[false,false,false,false],[false,false,false,false,true,true],true⟩ _ ?hl rfl rfl fun cdv Ar outer s H E hr=>⟨_,(ac (bv (i:=4) S.nd rfl (Or.inl rfl) (bj (G_q15) (hr.mono (by decide)) rfl T.m_q15 T.k_q15 T.b_q15 (ao (aa 0) (ao (aa 1) ar))))
      (ac (bv (i:=5) S.nd rfl (Or.inl rfl) (bj (G_q15) (hr.mono (by decide)) rfl T.m_q15 T.k_q15 T.b_q15 (ao (aa 0) (ao (aa 2) ar))))
      (ac (cc (cu PassesOwn.never (QT.bor [4,5] (QW.qt (gb (ig (aa 4)) (gb (ig (aa 5)) (fL (aS (cR hr.units) dEq (aw ak dIx (aa 4) (rG ad) (fun _ _=>rfl)) (aw ak dIx (aa 5) (rG ad) (fun _ _=>rfl)) (aP _))))))) (ac (dv (lT (i:=4) rfl))
      (ag (dv (lT (i:=5) rfl))))))
      (ag (bE (QF.qm (QF.bor [4,5] (qf_mk kq dCat (pL kq dCat (aa 4) (d8 ["tie","number"] [0] ⟨rfl,rfl,by decide +kernel,rfl,rfl,(by first | exact trivial | exact ⟨rfl,trivial⟩ | exact ⟨rfl,rfl,trivial⟩ | exact ⟨rfl,rfl,rfl,trivial⟩ | exact ⟨rfl,rfl,rfl,rfl,trivial⟩),rfl⟩ rfl (we rfl T.z_reversed (ae (aa 5) ah)) (mT (dR (bD 0) (dR (bD 1) jS)) (aj (aj aW))) (fun _ _ _ _=>⟨(ic rfl (ck (bc (i:=0) (show List.Nodup (["tie","number","came"]:List Str) by decide +kernel) rfl (Or.inl rfl)) (ck (bc (i:=1) (show List.Nodup (["tie","number","came"]:List Str) by decide +kernel) rfl (Or.inl rfl)) fY))),cB,(b8 (ae (aw ak dIx (d5 (cH hr) (aa 2) (aa 0)) ad (fun _ _=>rfl)) (ae (aa 1) ah)))⟩))) (cx (ae (b8 (ae (aa 2) (ae (aa 3) ah))) ah)))))))))),fun ds q h=>?_⟩
  case hl=>intro ds q h; obtain ⟨cs,x,y,k,p1,p2,r,rfl,_⟩:=h; rfl
  obtain ⟨cs,x,y,k,p1,p2,r,rfl,hB1,hB2,l1,l2,q0⟩:=h
  refine ⟨cs,x,p1,r,rfl,hB1,l1,?_⟩
  refine ⟨cs,y,p2,r,rfl,hB2,l2,?_⟩
  refine ⟨fun ρ=>∃ P Q C,ρ = [some (dj cs),some (.int x),some (.int y),some (.int k),some (a_ P),some (a_ Q)] ∧ p1 = P ++ C ∧ p2 = Q ++ C,?_,?_⟩
  rotate_left
  · rintro ρ ⟨P,Q,C,rfl,e1,e2⟩
    have hf:=q0 P Q C e1 e2
    rw [e2] at hB2 l2
    rw [mH hB2] at hf
    rw [e1] at l1
    rw [List.length_append] at l1 l2
    refine ⟨by rw [List.length_reverse,List.length_map]; exact zo261 l1 l2,?_⟩
    refine cA (fun d=>dLk (dF cs (fb d).1,(fb d).2)) ?_ ?_
    · intro d hd kk hk
      rw [List.mem_reverse] at hd
      obtain ⟨l,hm,rfl⟩:=List.mem_map.mp hd
      obtain ⟨t,e⟩:=il hB2 l (List.mem_append_left _ hm)
      have ep:dF cs l.1 = t:=by unfold dF; rw [e]
      refine ⟨.inl l.1,dLk (t,l.2),rfl,by rw [cW,e]; rfl,?_⟩
      rw [show fb (dLk l) = l from rfl,ep] at hk
      exact hk
    have em:(((Q.map dLk).reverse).map fun d=>dLk (dF cs (fb d).1,(fb d).2)) = (Q.reverse.map fun l=>(dF cs l.1,l.2)).map dLk:=by
      rw [← List.map_reverse,List.map_map,List.map_map]; rfl
    rw [em]
    refine ⟨by rw [List.length_map,List.length_map,List.length_map,List.length_reverse]; exact zo239 l1 l2,?_⟩
    refine ⟨by rw [List.length_append,List.length_map,List.length_map,List.length_map,List.length_reverse]; show _ + 1 ≤ 1000; exact zo214 l1 l2,?_⟩
    have ef:a_ (P ++ ((Q.reverse.map fun l=>(dF cs l.1,l.2)) ++ [(y,k)])) = .lst ((P.map dLk ++ (Q.reverse.map fun l=>(dF cs l.1,l.2)).map dLk) ++ [dLk (y,k)]):=by
      unfold a_; rw [List.map_append,List.map_append,List.append_assoc]; rfl
    rw [ef] at hf
    exact ⟨g8 (g8 (io _) (io _)) rfl,hf⟩
  refine ⟨fun m ρ=>∃ P Q C,ρ = [some (dj cs),some (.int x),some (.int y),some (.int k),some (a_ P),some (a_ Q)] ∧ p1 = P ++ C ∧ p2 = Q ++ C ∧ m = P.length,⟨_,p1,p2,[],rfl,(List.append_nil _).symm,(List.append_nil _).symm,rfl⟩,?_⟩
  rintro m ρ ⟨P,Q,C,rfl,e1,e2,rfl⟩
  rcases List.eq_nil_or_concat P with rfl | ⟨P0,a,rfl⟩
  · exact ⟨[],Q,C,rfl,e1,e2⟩
  have em:∀ (L:List (Int × Int)) (l:Int × Int),(L.concat l).map dLk = L.map dLk ++ [dLk l]:=fun L l=>by rw [List.concat_eq_append,List.map_append]; rfl
  have hne:∀ (L:List (Int × Int)) (l:Int × Int),(!((L.concat l).map dLk).isEmpty) = true:=fun L l=>by rw [em]; cases L <;> rfl
  have hg:∀ (L:List (Int × Int)) (l:Int × Int),((L.concat l).map dLk)[((L.concat l).map dLk).length - 1]? = some (dLk l):=fun L l=>by
    rw [em,List.length_append]
    show (L.map dLk ++ [dLk l])[(L.map dLk).length + 1 - 1]? = _
    rw [Nat.add_sub_cancel,List.getElem?_append_right (Nat.le_refl _),Nat.sub_self]; rfl
  have hat:∀ (L:List (Int × Int)) (l:Int × Int),atI ((L.concat l).map dLk) (-1) = some (dLk l):=fun L l=>by
    rw [em]; exact qV _ _
  have hdl:∀ (L:List (Int × Int)) (l:Int × Int),((L.concat l).map dLk).dropLast = L.map dLk:=fun L l=>by rw [em,List.dropLast_concat]
  refine (bQ (c:=(!((P0.concat a).map dLk).isEmpty) = true) (fun _=>?_) (fun c=>absurd (hne P0 a) c))
  rcases List.eq_nil_or_concat Q with rfl | ⟨Q0,b,rfl⟩
  · exact ⟨_,[],C,rfl,e1,e2⟩
  refine (bQ (c:=(!((Q0.concat b).map dLk).isEmpty) = true) (fun _=>?_) (fun c=>absurd (hne Q0 b) c))
  refine bi (hat P0 a) ?_
  refine bi (hat Q0 b) ?_
  refine ⟨p6 a,p6 b,?_⟩
  rw [wU]
  refine (bQ (c:=decide (a = b) = true) (fun c=>?_) (fun c=>⟨_,_,C,rfl,e1,e2⟩))
  have eab:=of_decide_eq_true c
  show (match ((P0.concat a).map dLk)[((P0.concat a).map dLk).length - 1]? with | some d=>_ | none=>False)
  rw [hg,hdl]
  refine ⟨rfl,?_⟩
  show (match ((Q0.concat b).map dLk)[((Q0.concat b).map dLk).length - 1]? with | some d=>_ | none=>False)
  rw [hg,hdl]
  refine ⟨rfl,?_⟩
  refine ⟨P0.length,by rw [List.concat_eq_append,List.length_append]; exact Nat.lt_succ_self _,P0,Q0,a :: C,rfl,?_,?_,rfl⟩
  · rw [e1,List.concat_eq_append,List.append_assoc]; rfl
  · rw [e2,List.concat_eq_append,List.append_assoc,← eab]; rfl
end
end K47
namespace K47
open PySem L2
section
variable {P:Program} {w:World} {K:PySem.W.Frag} {mg:Str → Option Value} {base:Heap} {A:Adr}
theorem Cm.imp {n:Nat} {E E':Int → Int → Int → Prop} (h:∀ a b k,E a b k → E' a b k) {cs:bw} (hc:Cm n E cs):Cm n E' cs:=by
  induction hc with
  | nil=>exact .nil
  | root _ a b c ih=>exact .root ih a b c
  | link _ a b c d e ih=>exact .link ih a b c d (h _ _ _ e)
def wB (ps:List Int) (cs:bw) (x:Int):Bool:=@decide (∃ p r,Back cs x p r ∧ twP ps p r = false) (Classical.propDecidable _)
theorem rM {ps:List Int} {cs:bw} {x r:Int} {p:List (Int × Int)} (h:Back cs x p r):wB ps cs x = !twP ps p r:=by
  unfold wB
  cases e:twP ps p r with
  | false=>exact @decide_eq_true _ (Classical.propDecidable _) ⟨p,r,h,e⟩
  | true =>
    refine @decide_eq_false _ (Classical.propDecidable _) fun ⟨p',r',h',e'⟩=>?_
    obtain ⟨rfl,rfl⟩:=h.det h'
    rw [e] at e'; cases e'
def bsC (ps:List Int) (cs:bw) (n:Nat):List Bool:=(List.range n).map fun i=>wB ps cs ((1:Int) + (i:Nat))
theorem nz (ps:List Int) (cs:bw) (n:Nat):(bsC ps cs n).length = n:=by unfold bsC; rw [List.length_map,List.length_range]
theorem pW {ps:List Int} {cs:bw} {n:Nat} {x:Int} (h0 : 1 ≤ x) (h1:x ≤ n):wd (bsC ps cs n) x = wB ps cs x:=by
  unfold wd bsC
  rw [List.getD_eq_getElem?_getD,List.getElem?_map,List.getElem?_range (by exact zo25 h0 h1)]
  show wB ps cs (1 + (((x - 1).toNat:Nat):Int)) = _
  rw [show 1 + (((x - 1).toNat:Nat):Int) = x by exact zo50 h0]
def txF (ps:List Int) (cs:bw):D → D
  | .int x=>.str (txt (wB ps cs x))
  | d=>d
theorem wm {n:Nat} {ps:List Int} {as:List Ask} {cs:bw} {x y k r:Int} {P Q C:List (Int × Int)} (hc:Cm n (JoP ps as) cs) (h1:Back cs x (P ++ C) r) (h2:Back cs y (Q ++ C) r) (hy:LkOk n as.length (y,k)):∀ m ∈ P ++ (dnP Q (hdP C r) ++ [(y,k)]),LkOk n as.length m:=fun m hm=>by
  have one:∀ {x:Int} {p:List (Int × Int)},Back cs x p r → ∀ l ∈ p,LkOk n as.length l ∧ LkOk n as.length (dF cs l.1,l.2):=fun hb l hl=>by
    obtain ⟨t,e⟩:=il hb l hl
    have r1:=hc.rng e
    obtain ⟨⟨_,k0,k1⟩,u,et⟩:=hc.par e
    have r2:=hc.rng et
    have ep:dF cs l.1 = t:=by unfold dF; rw [e]
    rw [ep]
    exact ⟨⟨r1.1,r1.2,k0,k1⟩,r2.1,r2.2,k0,k1⟩
  rcases List.mem_append.mp hm with z | z
  · exact (one h1 m (List.mem_append_left _ z)).1
  · rcases List.mem_append.mp z with z | z
    · rw [mH h2] at z
      obtain ⟨l,hl,rfl⟩:=List.mem_map.mp z
      exact (one h2 l (List.mem_append_left _ (List.mem_reverse.mp hl))).2
    · rw [List.mem_singleton.mp z]; exact hy
theorem wO {ps:List Int} {as:List Ask} {ls:List (Int × Int)} (h3 : 3 ≤ ls.length) (h61:ls.length ≤ 61) (hk:∀ l ∈ ls,LkOk ps.length as.length l) (hr:du ps as ls = true):iI ps as (a_ ls) = true:=by
  show ((decide (3 ≤ (ls.map dLk).length) && decide ((ls.map dLk).length ≤ 61)) && ((ls.map dLk).all (df ps.length as.length) && du ps as ((ls.map dLk).map fb))) = true
  rw [l6,hr,List.length_map,decide_eq_true h3,decide_eq_true h61,List.all_map]
  rw [Bool.and_true,Bool.and_true,Bool.true_and]
  refine List.all_eq_true.mpr fun l hl=>?_
  have h:=hk l hl
  have a:=h.t0; have b:=h.t1; have c:=h.k0; have d:=h.k1
  show (btw 1 ps.length (.int l.1) && btw 0 ((as.length:Int) - 1) (.int l.2)) = true
  unfold btw
  simp
  exact zo127 a b c d
theorem kB:∀ bs:List Bool,imms (bs.map fun b=>D.str (txt b)) = true
  | []=>rfl
  | b :: bs=>by rw [List.map_cons,imms,kB bs]; rfl
def oI:SpD:=fun ds q=>∃ ps rs as,ds = [aL ps rs,aO as] ∧ Tree ps rs ∧ AsksOk ps as ∧ (∀ bs,bs.length = ps.length → (∀ a ∈ as,de ps a.one a.other bs = true) → q (.tup [.str "pointed",dTx bs]) []) ∧ ∀ R,iI ps as (a_ R) = true → q (.tup [.str "ring",a_ R]) []
theorem wN (T:Txt K mg A):FnOk P w K mg base CX0 9 A.f_q29 A.d_q29 ["tree","asks"] (bt [false,false] true (oI)):=by
  have G_q6:=ok_q6 (P:=P) (w:=w) (base:=base) T
  have G_q23:=vk (P:=P) (w:=w) (base:=base) T
  have G_q2:=ok_q2 (P:=P) (w:=w) (base:=base) T
  have G_q10:=wY (P:=P) (w:=w) (base:=base) T
  have G_q5:=ok_q5 (P:=P) (w:=w) (base:=base) T
  have G_q30:=xK (P:=P) (w:=w) (base:=base) T
  have S:=vw
  refine fnD T.F_q29 S ⟨[false,false],[false,false,false,false,true,false,true,false,false,false,false],true⟩ _ ?hl rfl rfl fun cdv Ar outer s H E hr=>⟨_,(ac (dv (av (G_q2) (hr.mono (by decide)) rfl T.m_q2 T.k_q2 T.b_q2 (ao (aa 0) (ao (aa 1) ar))))
      (ac (aR (i:=2) S.nd rfl (Or.inl rfl) (QF.qe (bj (G_q23) (hr.mono (by decide)) rfl T.m_q23 T.k_q23 T.b_q23 (ao (aa 0) (ao (aa 1) ar)))))
      (ac (aR (i:=3) S.nd rfl (Or.inl rfl) (QF.qe (rO rfl rfl T.z_list cp rfl T.z_range qY (ae ad (ae (aI bh dI (aA aq b3 rfl T.z_len a9 (ae (aw ak dIx (aa 0) ad (fun _ _=>rfl)) ah)) ad) ah)))))
      (ac (bv (i:=4) S.nd rfl (Or.inr rfl) nN)
      (ac (bH PassesOwn.never rfl (bn (aa 3)) (az (i:=5) S.nd rfl (Or.inl rfl)) (ag (bf (QT.bor [4] (aS (eX (cH hr)) nK (aa 5) (aa 4) rfl)) (ag (dv (av (G_q10) (hr.mono (by decide)) rfl T.m_q10 T.k_q10 T.b_q10 (ao (aa 5) (ao (aa 2) (dO 4 ar)))))) aQ)))
      (ac (kc (i:=6) [4] ["tie"] [0,4] ⟨rfl,rfl,by decide +kernel,rfl,rfl,(by first | exact trivial | exact ⟨rfl,trivial⟩ | exact ⟨rfl,rfl,trivial⟩ | exact ⟨rfl,rfl,rfl,trivial⟩ | exact ⟨rfl,rfl,rfl,rfl,trivial⟩),rfl⟩ rfl S.nd rfl (Or.inl rfl) (bn (aa 3)) (bD 0) (fun _ _ _ _=>⟨(bc (i:=0) (show List.Nodup (["tie","tree","came"]:List Str) by decide +kernel) rfl (Or.inl rfl)),cB,(av (G_q30) (hr.mono (by decide)) rfl T.m_q30 T.k_q30 T.b_q30 (ao (aa 1) (ao (aa 2) (ao (aa 0) ar))))⟩))
      (ac (aR (i:=7) S.nd rfl (Or.inl rfl) (QE.bor [6] (av (G_q6) (hr.mono (by decide)) rfl T.m_q6 T.k_q6 T.b_q6 (ao (aa 0) (ao (aa 2) (ao (aa 6) ar))))))
      (ac (bf (aS vm dIsN (aa 7) kz (aP _)) (ag (bE (dD (a8 (QF.qm (QE.qf cP)) (a8 (cb 6) cC))))) aQ)
      (ac (eE (aa 7) (bU rfl (aE (az (i:=8) S.nd rfl (Or.inl rfl)) (aE (az (i:=9) S.nd rfl (Or.inl rfl)) (aE (az (i:=10) S.nd rfl (Or.inl rfl)) bC))) (aj (aj (aj aW)))))
      (ag (bE (dD (a8 (QF.qm (QE.qf cP)) (a8 (QF.qm (QF.bor [4] (bj (G_q5) (hr.mono (by decide)) rfl T.m_q5 T.k_q5 T.b_q5 (ao (aa 4) (ao (aa 8) (ao (aa 9) (ao (aa 10) ar))))))) cC)))))))))))))),fun ds q h=>?_⟩
  case hl=>intro ds q h; obtain ⟨ps,rs,as,rfl,_⟩:=h; rfl
  obtain ⟨ps,rs,as,rfl,hT,ha,q0,q1⟩:=h
  have hti:=hT.hi
  refine ⟨ps,rs,as,rfl,hT,ha,?_⟩
  refine ⟨ps,rs,as,rfl,hT,ha,fun L hL hC=>?_⟩
  refine ⟨by rw [aK]; exact zo291 hti,?_⟩
  rw [show (((ps.map D.int).length:Int) + 1 - 1).toNat = ps.length by rw [aK]; exact zo53 hti]
  refine ⟨fun i ρ=>∃ cs v5 v6 v7 v8 v9 v10,ρ = [some (aL ps rs),some (aO as),some (.lst (L.map a_)),some (.lst (fj 1 ps.length)),some (dj cs),v5,v6,v7,v8,v9,v10] ∧ Cm ps.length (JoP ps as) cs ∧ Clo L ps.length cs ∧ ∀ t:Int,1 ≤ t → t ≤ (i:Int) → ∃ u,aV cs t = some u,⟨[],_,_,_,_,_,_,rfl,.nil,⟨fun x u h=>(by cases h),fun x u h=>(by cases h)⟩,fun t a b=>absurd a (by exact zo375 a b)⟩,?_,?_⟩
  · rintro i d ρ hd ⟨cs,v5,v6,v7,v8,v9,v10,rfl,hc,hcl,hcov⟩
    obtain ⟨hi,rfl⟩:=cE hd
    have go:∀ cs':bw,Ext cs cs' → (∃ u,aV cs' (1 + (i:Int)) = some u) → ∀ t:Int,1 ≤ t → t ≤ ((i + 1:Nat):Int) → ∃ u,aV cs' t = some u:=fun cs' he h1 t t0 t1=>by
      by_cases e:t = 1 + (i:Int)
      · rw [e]; exact h1
      · obtain ⟨u,hu⟩:=hcov t t0 (by exact zo251 t1 e); exact ⟨u,he _ _ hu⟩
    refine ⟨.inl (1 + (i:Int)),rfl,?_⟩
    refine (bQ (c:=(!aN (cI cs) (.inl (1 + (i:Int)))) = true) (fun c=>?_) (fun c=>?_))
    · rw [cX] at c
      have hnone:aV cs (1 + (i:Int)) = none:=by
        cases e:aV cs (1 + (i:Int)) with
        | none=>rfl
        | some v=>rw [e] at c; cases c
      refine ⟨ps,as,L,cs,1 + (i:Int),690,rfl,hL,by exact zo382,hti,hc,hcl,hnone,by exact qo,by exact t8 hi,fun cs' hc' hcl' he hf=>?_⟩
      exact ⟨cs',_,_,_,_,_,_,rfl,hc',hcl',go cs' he hf⟩
    · rw [cX] at c
      have:(aV cs (1 + (i:Int))).isSome = true:=by
        cases e:aV cs (1 + (i:Int)) with
        | none=>rw [e] at c; exact absurd rfl c
        | some v=>rfl
      exact ⟨cs,_,_,_,_,_,_,rfl,hc,hcl,go cs (fun _ _ e=>e) (Option.isSome_iff_exists.mp this)⟩
  · rintro ρ ⟨cs,v5,v6,v7,v8,v9,v10,rfl,hc,hcl,hcov⟩
    rw [bM] at hcov
    have hfew:=hc.few
    have hbk:∀ x:Int,1 ≤ x → x ≤ ps.length → ∃ p r,Back cs x p r ∧ p.length ≤ 23:=fun x x0 x1=>by
      obtain ⟨u,hu⟩:=hcov x x0 x1
      obtain ⟨p,r,hb,hl⟩:=hc.back hu
      exact ⟨p,r,hb,by exact zo255 hti hfew hl⟩
    refine ⟨by rw [bM]; exact sk hti,?_⟩
    refine cA (txF ps cs) ?_ ?_
    · intro d hd k hk
      obtain ⟨i,hi⟩:=List.mem_iff_getElem?.mp hd
      obtain ⟨h1,rfl⟩:=cE hi
      obtain ⟨p,r,hb,hl⟩:=hbk (1 + (i:Int)) (by exact qo) (by exact t8 h1)
      refine ⟨ps,rs,as,cs,1 + (i:Int),p,r,rfl,hT,hc,hb,hl,?_⟩
      rw [← rM hb]
      exact hk
    have em:(fj 1 ps.length).map (txF ps cs) = (bsC ps cs ps.length).map fun b=>.str (txt b):=by
      unfold fj bsC
      rw [List.map_map,List.map_map]; rfl
    rw [em]
    refine ⟨kB _,?_⟩
    refine ⟨ps,rs,as,L,bsC ps cs ps.length,690,rfl,hT,hL,nz _ _ _,fun hok=>?_,fun x l x0 x1 hl hcl2=>?_⟩
    · refine ⟨rfl,rfl,q0 (bsC ps cs ps.length) (nz _ _ _) fun a ha1=>?_⟩
      obtain ⟨k,hk⟩:=List.mem_iff_getElem?.mp ha1
      have he:=(ha.ok a ha1).ends
      refine o9 hT he fun p hp=>?_
      have hm:=hC k a (List.getElem?_eq_some_iff.mp hk).1 hk p hp
      have hw:=cD hT he (fF hp).1
      exact hok p.1 (by exact zo1 hw) hw.2 _ hm
    obtain ⟨hj,hlk⟩:=hL.row x x0 x1 l hl
    obtain ⟨ux,hux⟩:=hcov x x0 x1
    obtain ⟨p1,p2,r,hb1,hb2⟩:=hcl.rt x ux hux l hl
    obtain ⟨p1',r1',hb1',hl1⟩:=hbk x x0 x1
    obtain ⟨p2',r2',hb2',hl2⟩:=hbk l.1 hlk.t0 hlk.t1
    obtain ⟨rfl,rfl⟩:=hb1.det hb1'
    obtain ⟨rfl,rfl⟩:=hb2.det hb2'
    rw [pW x0 x1,pW hlk.t0 hlk.t1,rM hb1,rM hb2] at hcl2
    refine ⟨rfl,?_⟩
    refine ⟨rfl,cs,x,l.1,l.2,p1,p2,r,rfl,hb1,hb2,hl1,hl2,fun P Q C e1 e2=>?_⟩
    rw [e1] at hb1 hcl2 hl1
    rw [e2] at hb2 hcl2 hl2
    rw [List.length_append] at hl1 hl2
    have hthr:=qS (k:=l.2) (Cm.imp (fun _ _ _ h=>h.1) hc) hb1 hb2 hj (by
      revert hcl2
      cases twP ps (P ++ C) r <;> cases twP ps (Q ++ C) r <;> cases aF ps x l.1 <;> decide)
    refine q1 _ (wO hthr.2 ?_ (wm hc hb1 hb2 hlk) hthr.1)
    rw [List.length_append,List.length_append,mD]
    show P.length + (Q.length + 1) ≤ 61
    exact zo132 hl2 hl1
end
end K47
namespace K47
open PySem L2
section
variable {P:Program} {w:World} {K:PySem.W.Frag} {mg:Str → Option Value} {base:Heap} {A:Adr}
theorem pD (T:Txt K mg A):FnOk P w K mg base CX0 1 A.f_q35 A.d_q35 ["_law_script","_law_k"] (bt [false,false] false (wu K)):=by
  have S:=wD
  refine fnD T.F_q35 S ⟨[false,false],[false,false],false⟩ _ ?hl rfl rfl fun cdv Ar outer s H E hr=>⟨_,(ac (bf (aS nF dB (aa 1) (aA aq b3 rfl T.z_len a9 (ae (aa 0) ah)) (aP _)) (ag (aU (aw ak dIx (aa 0) (aa 1) (fun _ _=>rfl)))) aQ)
      (ag (aU ad))),fun ds q h=>?_⟩
  case hl=>intro ds q h; obtain ⟨φ,ns,k,rfl,_⟩:=h; rfl
  obtain ⟨φ,ns,k,rfl,hφ,h0,q0⟩:=h
  refine ⟨hφ,?_⟩
  refine (bQ (c:=decide (k < (ns.length:Int)) = true) (fun c=>?_) (fun c=>?_))
  · have c':k < ns.length:=by simpa using c
    refine ⟨hφ,?_⟩
    show (match atI ns k with | some n=>q (.int n) [] | none=>False)
    rw [vM h0 c']; exact q0
  · have c':ns.length ≤ k.toNat:=by simp at c; exact zo225 h0 c
    have e:rz ns k = 0:=by unfold rz; rw [List.getD_eq_getElem?_getD,List.getElem?_eq_none c']; rfl
    rw [e] at q0; exact q0
theorem qx (T:Txt K mg A):FnOk P w K mg base CX0 1 A.f_q20 A.d_q20 ["_law_cell_here","_law_k"] (bt [false,false] true (qz)):=by
  have S:=vJ
  refine fnD T.F_q20 S ⟨[false,false],[false,false,false,false],true⟩ _ ?hl rfl rfl fun cdv Ar outer s H E hr=>⟨_,(ac (aR (i:=2) S.nd rfl (Or.inl rfl) (aA rH dAbs rfl T.z_abs v_ (ae (aa 0) ah)))
      (ac (aR (i:=3) S.nd rfl (Or.inl rfl) (aI dh dIC (aI fh dIC (aI bh dI (aI bh dI (aI dh dIC (aa 2) ad) (aI fh dIC ad (aa 1))) ad) ad) ad))
      (ac (bf (aS nF dB (aa 2) (aI ir dIC ad ad) (aP _)) (ag (aR (i:=2) S.nd rfl (Or.inl rfl) ad)) aQ)
      (ag (bE (QF.qm (b6 (ae (aa 2) (ae (aa 3) ah))))))))),fun ds q h=>?_⟩
  case hl=>intro ds q h; obtain ⟨c,k,rfl,_⟩:=h; rfl
  obtain ⟨c,k,rfl,h0,h1,q0⟩:=h
  obtain ⟨z,hz⟩:∃ z:Int,z = (if c < 0 then -c else c):=⟨_,rfl⟩
  have hz0 : 0 ≤ z:=by rw [hz]; split <;> (first|lia|omega)
  refine ⟨(show (0:Int) < 1000003 by decide),Or.inl ⟨by decide,by decide⟩,Or.inr ⟨by decide,by decide⟩,(show (0:Int) < 2147483647 by decide),?_⟩
  refine ⟨⟨by decide,by decide,by decide⟩,?_⟩
  refine (bQ (c:=decide ((if c < 0 then -c else c) < 10 ^ 18) = true) (fun c=>?_) (fun c=>?_))
  · exact ⟨rfl,q0 _ _ (Int.le_refl 0)⟩
  · exact ⟨rfl,q0 _ _ (by rw [← hz]; exact hz0)⟩
theorem kH (T:Txt K mg A):FnOk P w K mg base CX0 1 A.f_q36 A.d_q36 ["_law_source_here","_law_many"] (bt [true,false] false (xi)):=by
  have S:=vx
  refine fnD T.F_q36 S ⟨[true,false],[true,false,false,false],false⟩ _ ?hl rfl rfl fun cdv Ar outer s H E hr=>⟨_,(ac (bf (QT.bor [0] (aS gw dB (aw ak dIx (aa 0) ad (fun _ _=>rfl)) ad (aP _))) (ac (aR (i:=2) S.nd rfl (Or.inl rfl) (QE.bor [0] (aI dh dIC (aw ak dIx (aa 0) ad (fun _ _=>rfl)) (aa 1))))
      (ac (kg (i:=0) rfl (QF.bor [0] (QE.qf (aI rk dIC (aw ak dIx (aa 0) ad (fun _ _=>rfl)) (aa 1)))) ad)
      (ag (aU (aa 2))))) aQ)
      (ac (kg (i:=0) rfl (QF.bor [0] (QE.qf (aI dh dIC (aI bh dI (aI fh dIC (aw ak dIx (aa 0) ad (fun _ _=>rfl)) ad) ad) ad))) ad)
      (ac (aR (i:=3) S.nd rfl (Or.inl rfl) (QE.bor [0] (aI jX dIC (aI dh dIC (aI fh dIC (aw ak dIx (aa 0) ad (fun _ _=>rfl)) (aw ak dIx (aa 0) ad (fun _ _=>rfl))) ad) ad)))
      (ac (bf (aS gw dB (aa 1) (aI ir dIC ad ad) (aP _)) (ac (kg (i:=0) rfl (QF.bor [0] (QE.qf (aI dh dIC (aI bh dI (aI fh dIC (aw ak dIx (aa 0) ad (fun _ _=>rfl)) ad) ad) ad))) ad)
      (ag (aR (i:=3) S.nd rfl (Or.inl rfl) (QE.bor [0] (aI bh dI (aI fh dIC (aa 3) ad) (aI jX dIC (aI dh dIC (aI fh dIC (aw ak dIx (aa 0) ad (fun _ _=>rfl)) (aw ak dIx (aa 0) ad (fun _ _=>rfl))) ad) ad)))))) aQ)
      (ag (aU (aI dh dIC (aa 3) (aa 1)))))))),fun ds q h=>?_⟩
  case hl=>intro ds q h; obtain ⟨c,m,many,rfl,_⟩:=h; rfl
  obtain ⟨c,m,many,rfl,h0,hm,hs,q0⟩:=h
  refine (bQ (c:=decide (0 < c) = true) (fun c1=>?_) (fun c1=>?_))
  · refine ⟨hm,rfl,?_⟩
    refine ⟨⟨hm,hs⟩,rfl,?_⟩
    exact q0 _ (c / many) m (Int.emod_nonneg _ (Int.ne_of_gt hm)) (Int.emod_lt_of_pos _ hm) (Int.ediv_nonneg h0 (Int.le_of_lt hm))
  · refine ⟨Or.inr ⟨by decide,by decide⟩,(show (0:Int) < 2147483647 by decide),rfl,?_⟩
    obtain ⟨m1,hm1⟩:∃ m1,m1 = (m * 48271 + 11) % 2147483647:=⟨_,rfl⟩
    have a1:=Int.emod_nonneg (m * 48271 + 11) (show (2147483647:Int) ≠ 0 by decide)
    have a2:=Int.emod_lt_of_pos (m * 48271 + 11) (show (0:Int) < 2147483647 by decide)
    rw [← hm1] at a1 a2
    rw [hm1] at a1 a2
    have cm:∀ x:Int,CMul ((m * 48271 + 11) % 2147483647) x:=fun x=>Or.inl ⟨by exact zo183,by exact zo200⟩
    refine ⟨cm _,(show (0:Int) < 2147483629 by decide),⟨by decide,by decide⟩,rfl,?_⟩
    refine ⟨⟨by decide,by decide,by decide⟩,?_⟩
    refine (bQ (c:=decide ((10:Int) ^ Int.toNat 7 < many) = true) (fun c2=>?_) (fun c2=>?_))
    · refine ⟨cm _,(show (0:Int) < 2147483647 by decide),rfl,?_⟩
      have b1:=Int.emod_nonneg ((m * 48271 + 11) % 2147483647 * 39373 + 17) (show (2147483647:Int) ≠ 0 by decide)
      have b2:=Int.emod_lt_of_pos ((m * 48271 + 11) % 2147483647 * 39373 + 17) (show (0:Int) < 2147483647 by decide)
      refine ⟨Or.inr ⟨by decide,by decide⟩,⟨Or.inl ⟨by exact zo121 b1,by exact zo128 b1⟩,(show (0:Int) < 2147483629 by decide),⟨by decide,by decide⟩,rfl,?_⟩⟩
      refine ⟨hm,?_⟩
      exact q0 _ c _ (Int.emod_nonneg _ (Int.ne_of_gt hm)) (Int.emod_lt_of_pos _ hm) h0
    · refine ⟨hm,?_⟩
      exact q0 _ c _ (Int.emod_nonneg _ (Int.ne_of_gt hm)) (Int.emod_lt_of_pos _ hm) h0
theorem vj (T:Txt K mg A):FnOk P w K mg base CX0 2 A.f_q38 A.d_q38 ["_law_source_here","_law_most"] (bt [true,false] true (sV)):=by
  have G_q36:=kH (P:=P) (w:=w) (base:=base) T
  have S:=xf
  refine fnD T.F_q38 S ⟨[true,false],[true,false,false,false,true,false,false],true⟩ _ ?hl rfl rfl fun cdv Ar outer s H E hr=>⟨_,(ac (aR (i:=2) S.nd rfl (Or.inl rfl) (aI bh dI ad (av (G_q36) (hr.mono (by decide)) rfl T.m_q36 T.k_q36 T.b_q36 (dO 0 (ao (aa 1) ar)))))
      (ac (aR (i:=3) S.nd rfl (Or.inl rfl) (av (G_q36) (hr.mono (by decide)) rfl T.m_q36 T.k_q36 T.b_q36 (dO 0 (ao ad ar))))
      (ac (bv (i:=4) S.nd rfl (Or.inl rfl) (b6 ah))
      (ac (bH PassesOwn.never rfl (cY rfl T.z_range (ae (aa 2) ah)) (az (i:=5) S.nd rfl (Or.inl rfl)) (ag (bP (i:=4) rfl (QE.qf (aw ak dIx (cx (ae (av (G_q36) (hr.mono (by decide)) rfl T.m_q36 T.k_q36 T.b_q36 (dO 0 (ao (aI bh dI (aa 5) ad) ar))) (ae (aa 5) (ae ad (ae (aI jX dIC (aa 5) ad) ah))))) (aa 3) (fun _ _=>rfl))))))
      (ac (aR (i:=6) S.nd rfl (Or.inr rfl) (aw ak dIx (cx (ae ad (ae ad (ae ad (ae (aI ir dIC ad ad) ah))))) (av (G_q36) (hr.mono (by decide)) rfl T.m_q36 T.k_q36 T.b_q36 (dO 0 (ao ad ar))) (fun _ _=>rfl)))
      (ag (bE (dD (a8 (cb 4) (a8 (QF.qm (qN ["_law_k"] [0,6] 0 1 ⟨rfl,rfl,by decide +kernel,rfl,rfl,(by first | exact trivial | exact ⟨rfl,trivial⟩ | exact ⟨rfl,rfl,trivial⟩ | exact ⟨rfl,rfl,rfl,trivial⟩ | exact ⟨rfl,rfl,rfl,rfl,trivial⟩),rfl⟩ rfl (cY rfl T.z_range (ae (aa 2) ah)) (lh 0) (fun _ _ _ _=>⟨(bc (i:=0) (show List.Nodup (["_law_k","_law_source_here","_law_wide"]:List Str) by decide +kernel) rfl (Or.inl rfl)),cB,(aI bh dI ad (av (G_q36) (hr.mono (by decide)) rfl T.m_q36 T.k_q36 T.b_q36 (dO 1 (ao (aa 2) ar))))⟩))) cC)))))))))),fun ds q h=>?_⟩
  case hl=>intro ds q h; obtain ⟨c,m,most,rfl,_⟩:=h; rfl
  obtain ⟨c,m,most,rfl,h0,hm0,hm1,q0⟩:=h
  refine ⟨c,m,most,rfl,h0,hm0,cJ (n:=23) (by (first|lia|omega)) (by decide +kernel),fun n c1 m1 n0 n1 h1=>?_⟩
  refine ⟨c1,m1,4,rfl,h1,by decide,cJ (n:=4) (by decide) (by decide +kernel),fun w0 c2 m2 w00 w01 h2=>?_⟩
  refine ⟨rfl,?_⟩
  refine ⟨⟨by exact tX n0,by exact uY hm0 hm1 n1⟩,?_⟩
  refine ⟨fun i ρ=>∃ (ps:List Int) (c m:Int) (v:Option D),ρ = [some (ai [c,m]),some (.int most),some (.int (1 + n)),some (.int w0),some (ai ps),v,none] ∧ 0 ≤ c ∧ ps.length = i ∧ (∀ (j:Nat) (x:Int),ps[j]? = some x → 0 ≤ x ∧ x ≤ j),⟨[],c2,m2,_,rfl,h2,rfl,(fun j x h=>by simp at h)⟩,?_,?_⟩
  · rintro i d ρ hd ⟨ps,c3,m3,v,rfl,h3,lp,hpar⟩
    obtain ⟨hi,rfl⟩:=cE hd
    have hi2:i < 23:=by exact zo90 hm0 hm1 n0 n1 hi
    refine ⟨c3,m3,0 + (i:Int) + 1,rfl,h3,by exact zo186 lp hi2,cJ (n:=23) (by (first|lia|omega)) (by decide +kernel),fun r c4 m4 r0 r1 h4=>?_⟩
    refine ⟨⟨(show (0:Int) < 2 by decide),(show (2:Int) < 1073741824 by decide)⟩,?_⟩
    obtain ⟨y,hy,y1,y2⟩:∃ y:Int,atI [D.int r,D.int (0 + (i:Int)),D.int 0,D.int ((0 + (i:Int)) / 2)] w0 = some (.int y) ∧ 0 ≤ y ∧ y ≤ i:=by
      have:w0 = 0 ∨ w0 = 1 ∨ w0 = 2 ∨ w0 = 3:=by exact zo16 w00 w01
      rcases this with rfl | rfl | rfl | rfl
      all_goals exact ⟨_,rfl,by (first|lia|omega),by (first|lia|omega)⟩
    refine bi hy ?_
    refine ⟨rfl,by rw [aK]; exact zo197 lp hi2,?_⟩
    refine ⟨ps ++ [y],c4,m4,some (.int (0 + (i:Int))),?_,h4,by rw [List.length_append,lp]; rfl,nS hpar ⟨y1,by exact zo194 lp y2⟩⟩
    rw [← pA]; rfl
  · rintro ρ ⟨ps,c3,m3,v,rfl,h3,lp,hpar⟩
    rw [bM] at lp
    refine ⟨⟨by decide,by decide,by decide⟩,?_⟩
    refine ⟨c3,m3,4,rfl,h3,by decide,cJ (n:=4) (by decide) (by decide +kernel),fun r c4 m4 r0 r1 h4=>?_⟩
    obtain ⟨z,hz,z1,z2⟩:∃ z:Int,atI [D.int 1,D.int 3,D.int 60,D.int (10 ^ Int.toNat 6)] r = some (.int z) ∧ 1 ≤ z ∧ z ≤ 1000000:=by
      have:r = 0 ∨ r = 1 ∨ r = 2 ∨ r = 3:=by exact zo16 r0 r1
      rcases this with rfl | rfl | rfl | rfl
      all_goals exact ⟨_,rfl,by decide,by decide⟩
    refine bi hz ?_
    refine ⟨⟨by exact tX n0,by exact uY hm0 hm1 n1⟩,?_⟩
    refine ⟨by rw [bM]; exact zo129 hm0 hm1 n0 n1,?_⟩
    refine ⟨fun i es d=>∃ (rs:List Int) (c m:Int),es = rs.map D.int ∧ d = ai [c,m] ∧ 0 ≤ c ∧ rs.length = i ∧ (∀ (j:Nat) (x:Int),rs[j]? = some x → 1 ≤ x ∧ x ≤ 1000000),⟨[],c4,m4,rfl,rfl,h4,rfl,(fun j x h=>by simp at h)⟩,?_,?_⟩
    · rintro j x es d hx ⟨rs,c5,m5,rfl,rfl,h5,lr,hroom⟩
      refine ⟨c5,m5,z,rfl,h5,by exact zo242 z1 z2,cJ (n:=1000000) (by (first|lia|omega)) (by decide +kernel),fun u c6 m6 u0 u1 h6=>?_⟩
      exact ⟨rs ++ [1 + u],c6,m6,(List.map_append (l₂:=[1 + u])).symm,rfl,h6,by rw [List.length_append,lr]; rfl,nS hroom ⟨by exact zo41 u0,by exact zo110 z1 z2 u1⟩⟩
    · rintro es d ⟨rs,c5,m5,rfl,rfl,h5,lr,hroom⟩
      rw [bM] at lr
      refine ⟨bV _,?_⟩
      exact q0 ps rs c5 m5 ⟨by exact zo100 lp lr,by exact zo62 n0 lp lr,by exact zo58 hm0 hm1 n0 n1 lp lr,hpar,hroom⟩ (by exact zo76 n0 n1 lp lr) h5
theorem xC (T:Txt K mg A):FnOk P w K mg base CX0 2 A.f_q41 A.d_q41 ["_law_source_here","_law_many","_law_sizes","_law_worths"] (bt [true,false,false,false] false (wf)):=by
  have G_q36:=kH (P:=P) (w:=w) (base:=base) T
  have S:=vo
  refine fnD T.F_q41 S ⟨[true,false,false,false],[true,false,false,false,false,false,false],false⟩ _ ?hl rfl rfl fun cdv Ar outer s H E hr=>⟨_,(ac (aR (i:=4) S.nd rfl (Or.inl rfl) (av (G_q36) (hr.mono (by decide)) rfl T.m_q36 T.k_q36 T.b_q36 (dO 0 (ao (aI bh dI (aa 1) ad) ar))))
      (ac (aR (i:=5) S.nd rfl (Or.inl rfl) (aI dh dIC (aI bh dI (aI bh dI (aa 4) ad) (av (G_q36) (hr.mono (by decide)) rfl T.m_q36 T.k_q36 T.b_q36 (dO 0 (ao (aa 1) ar)))) (aI bh dI (aa 1) ad)))
      (ac (aR (i:=6) S.nd rfl (Or.inl rfl) (aI bh dI ad (av (G_q36) (hr.mono (by decide)) rfl T.m_q36 T.k_q36 T.b_q36 (dO 0 (ao (aw ak dIx (aa 2) (av (G_q36) (hr.mono (by decide)) rfl T.m_q36 T.k_q36 T.b_q36 (dO 0 (ao (aA aq b3 rfl T.z_len a9 (ae (aa 2) ah)) ar))) (fun _ _=>rfl)) ar)))))
      (ag (aU (b8 (ae (aa 4) (ae (aa 5) (ae (aa 6) (ae (aI bh dI ad (av (G_q36) (hr.mono (by decide)) rfl T.m_q36 T.k_q36 T.b_q36 (dO 0 (ao (aw ak dIx (aa 3) (av (G_q36) (hr.mono (by decide)) rfl T.m_q36 T.k_q36 T.b_q36 (dO 0 (ao (aA aq b3 rfl T.z_len a9 (ae (aa 3) ah)) ar))) (fun _ _=>rfl)) ar)))) ah)))))))))),fun ds q h=>?_⟩
  case hl=>intro ds q h; obtain ⟨c,m,ps,rs,n,sizes,worths,rfl,_⟩:=h; rfl
  obtain ⟨c,m,ps,rs,n,sizes,worths,rfl,h0,hT,hn,hs0,hs1,hs,hw0,hw1,hw,q0⟩:=h
  have hi:=hT.hi
  have hlo:=hT.lo
  refine ⟨c,m,n + 1,rfl,h0,by exact uS hn hi hlo,cJ (n:=24) (by (first|lia|omega)) (by decide +kernel),fun a c1 m1 a0 a1 h1=>?_⟩
  refine ⟨c1,m1,n,rfl,h1,by exact zo292 hn hi hlo,cJ (n:=24) (by (first|lia|omega)) (by decide +kernel),fun r c2 m2 r0 r1 h2=>?_⟩
  refine ⟨(show (0:Int) < n + 1 by exact uS hn hi hlo),?_⟩
  refine ⟨c2,m2,((sizes.map D.int).length:Int),rfl,h2,by rw [aK]; exact uO hs0 hs1,cJ (n:=100) (by rw [aK]; (first|lia|omega)) (by decide +kernel),fun k c3 m3 k0 k1 h3=>?_⟩
  rw [aK] at k1
  refine bi (bT k0 (by exact rc k1)) ?_
  have hz:=hs _ (L2.gY (show k.toNat < sizes.length by exact zo104 hs0 hs1 k1))
  generalize sizes.getD k.toNat 0 = z at hz
  refine ⟨c3,m3,z,rfl,h3,by exact zo244 hz,cJ (n:=1000000) (by (first|lia|omega)) (by decide +kernel),fun s c4 m4 s0 s1 h4=>?_⟩
  refine ⟨c4,m4,((worths.map D.int).length:Int),rfl,h4,by rw [aK]; exact uO hw0 hw1,cJ (n:=100) (by rw [aK]; (first|lia|omega)) (by decide +kernel),fun k2 c5 m5 k20 k21 h5=>?_⟩
  rw [aK] at k21
  refine bi (bT k20 (by exact rc k21)) ?_
  have hy:=hw _ (L2.gY (show k2.toNat < worths.length by exact zo7 k20 k21))
  generalize worths.getD k2.toNat 0 = y at hy
  refine ⟨c5,m5,y,rfl,h5,by exact zo190 hy,cJ (n:=1000000000000) (by (first|lia|omega)) (by decide +kernel),fun wo c6 m6 w0 w1 h6=>?_⟩
  have he:=lV (ps:=ps) (a:=a) (r:=r) a0 (by exact zo256 hn a1) r0 (by exact zo266 hn r1)
  have en:n + 1 = 1 + (ps.length:Int):=by exact zo264 hn
  rw [← en] at he
  exact q0 ⟨a,(a + 1 + r) % (n + 1),1 + s,1 + wo⟩ c6 m6 ⟨he,by show 1 ≤ 1 + s; exact zo41 s0,by show 1 + s ≤ 1000000; exact zo116 hz s1,by show 1 ≤ 1 + wo; exact zo41 w0,by show 1 + wo ≤ 1000000000000; exact zo81 hy w1⟩ h6
theorem l3 (T:Txt K mg A):FnOk P w K mg base CX0 1 A.f_q42 A.d_q42 ["_law_parents","_law_one","_law_other"] (bt [false,false,false] true (wj)):=by
  have S:=wM
  refine fnD T.F_q42 S ⟨[false,false,false],[false,false,false,true],true⟩ _ ?hl rfl rfl fun cdv Ar outer s H E hr=>⟨_,(ac (bv (i:=3) S.nd rfl (Or.inl rfl) (b6 ah))
      (ac (cu PassesOwn.never (aS (ci hr.units) dNe (aa 1) (aa 2) (aP _)) (ac (bP (i:=3) rfl (QE.qf (aA (gu rfl) dMax rfl T.z_max mJ (ae (aa 1) (ae (aa 2) ah)))))
      (ag (bf (aS gw dB (aa 1) (aa 2) (aP _)) (ag (aR (i:=1) S.nd rfl (Or.inl rfl) (aw ak dIx (aa 0) (aI bR dI (aa 1) ad) (fun _ _=>rfl)))) (ag (aR (i:=2) S.nd rfl (Or.inl rfl) (aw ak dIx (aa 0) (aI bR dI (aa 2) ad) (fun _ _=>rfl))))))))
      (ag (bE (QF.qm (QF.bor [3] (kL fq qO rfl T.z_sorted jH (ae (aa 3) ah)))))))),fun ds q h=>?_⟩
  case hl=>intro ds q h; obtain ⟨ps,rs,a,b,rfl,_⟩:=h; rfl
  obtain ⟨ps,rs,a,b,rfl,hT,a0,a1,b0,b1,q0⟩:=h
  refine ⟨rfl,?_⟩
  refine ⟨fun k ρ=>∃ a' b' acc,ρ = [some (ai ps),some (.int a'),some (.int b'),some (ai acc)] ∧ 0 ≤ a' ∧ a' ≤ ps.length ∧ 0 ≤ b' ∧ b' ≤ ps.length ∧ k = (a' + b').toNat ∧ acc.length + (a' + b').toNat ≤ 46 ∧ (∀ w m,Climb ps a' b' w m → Climb ps a b (acc ++ w) m),⟨_,a,b,[],rfl,a0,a1,b0,b1,rfl,by have:=hT.hi; simp; exact zo56 a1 b1 this,fun w m h=>h⟩,?_⟩
  rintro k ρ ⟨a',b',acc,rfl,a0',a1',b0',b1',rfl,hl,hc⟩
  have hi:=hT.hi
  refine (bQ (c:=(!decide (a' = b')) = true) (fun c=>?_) (fun c=>?_))
  · have hne:a' ≠ b':=by simpa using c
    obtain ⟨L,hL⟩:∃ L,L = (if b' > a' then b' else a'):=⟨_,rfl⟩
    refine ⟨rfl,?_⟩
    refine ⟨by show (acc.map D.int).length < 1000; rw [List.length_map]; clear hL; exact zo125 hl hne,?_⟩
    have eL:D.lst (acc.map D.int ++ [D.int (if b' > a' then b' else a')]) = ai (acc ++ [L]):=by rw [← hL,ai,List.map_append]; rfl
    refine (bQ (c:=decide (b' < a') = true) (fun c2=>?_) (fun c2=>?_))
    · have hlt:b' < a':=by simpa using c2
      have e:L = a':=by rw [hL,if_neg (by clear hL; exact u7 hlt)]
      clear hL
      have hp:=hT.up (show 0 < a' by exact zo160 a0' b0' hlt e) a1'
      refine bi (bT (by exact zo37 a0' e hp) (by exact u_ a1' e)) ?_
      refine ⟨(bO ps a' + b').toNat,by exact zo14 a0' a1' b0' b1' hi hne hlt e hp,bO ps a',b',acc ++ [L],?_,hp.1,by exact zo42 a1' e hp,b0',b1',rfl,by rw [List.length_append]; show acc.length + 1 + _ ≤ 46; exact zo9 a0' a1' b0' b1' hl hi hne hlt e hp,fun w m h=>by rw [List.append_assoc]; exact hc _ _ (by rw [e]; exact .left hlt h.comm)⟩
      rw [← eL]; rfl
    · have hlt : ¬ b' < a':=by simpa using c2
      have e:L = b':=by rw [hL,if_pos (by clear hL; exact zo71 hne hlt)]
      clear hL
      have hp:=hT.up (show 0 < b' by exact zo80 a0' b0' hne hlt e) b1'
      refine bi (bT (by exact zo37 b0' e hp) (by exact u_ b1' e)) ?_
      refine ⟨(a' + bO ps b').toNat,by exact zo13 a0' a1' b0' b1' hi hne hlt e hp,a',bO ps b',acc ++ [L],?_,a0',a1',hp.1,by exact zo42 b1' e hp,rfl,by rw [List.length_append]; show acc.length + 1 + _ ≤ 46; exact zo8 a0' a1' b0' b1' hl hi hne hlt e hp,fun w m h=>by rw [List.append_assoc]; exact hc _ _ (by rw [e]; exact .right (by exact zo126 hne hlt e) h)⟩
      rw [← eL]; rfl
  · have:a' = b':=by simpa using c
    subst this
    have hw:=hc [] a' (.same a')
    rw [List.append_nil] at hw
    have hln:=hw.len hT a0 b0 a1 b1
    rw [← (hw.way hT a0 b0 a1 b1).1] at q0
    exact ⟨acc,rfl,by exact zo70 a1 b1 hi hln,bV _,q0⟩
def rB (K:PySem.W.Frag):SpD:=fun ds q=>∃ φ ns most,ds = [.scr φ ns,.int most] ∧ nh K φ ns ∧ ns.length ≤ 63 ∧ 0 < most ∧ most ≤ 23 ∧ ∀ ps rs as,Tree ps rs → (ps.length:Int) ≤ most → AsksOk ps as → as.length ≤ 27 → q (.tup [aL ps rs,aO as]) []
theorem wX (T:Txt K mg A):FnOk P w K mg base CX0 3 A.f_q28 A.d_q28 ["_law_script","_law_most"] (bt [false,false] true (rB K)):=by
  have G_q41:=xC (P:=P) (w:=w) (base:=base) T
  have G_q35:=pD (P:=P) (w:=w) (base:=base) T
  have G_q20:=qx (P:=P) (w:=w) (base:=base) T
  have G_q38:=vj (P:=P) (w:=w) (base:=base) T
  have S:=vI
  refine fnD T.F_q28 S ⟨[false,false],[false,false,true,true,false,true],true⟩ _ ?hl rfl rfl fun cdv Ar outer s H E hr=>⟨_,(ac (bv (i:=2) S.nd rfl (Or.inl rfl) (bj (G_q38) (hr.mono (by decide)) rfl T.m_q38 T.k_q38 T.b_q38 (qk_t (bj (G_q20) (hr.mono (by decide)) rfl T.m_q20 T.k_q20 T.b_q20 (ao (av (G_q35) (hr.mono (by decide)) rfl T.m_q35 T.k_q35 T.b_q35 (ao (aa 0) (ao ad ar))) (ao ad ar))) (ao (aa 1) ar))))
      (ac (bv (i:=3) S.nd rfl (Or.inl rfl) (b6 ah))
      (ac (bH PassesOwn.never rfl (eW rfl T.z_range (ae ad (ae (aA (f9 rfl) dMin rfl T.z_min mQ (ae (aA aq b3 rfl T.z_len a9 (ae (aa 0) ah)) (ae ad ah))) ah))) (az (i:=4) S.nd rfl (Or.inl rfl)) (ac (bv (i:=5) S.nd rfl (Or.inl rfl) (bj (G_q20) (hr.mono (by decide)) rfl T.m_q20 T.k_q20 T.b_q20 (ao (av (G_q35) (hr.mono (by decide)) rfl T.m_q35 T.k_q35 T.b_q35 (ao (aa 0) (ao (aa 4) ar))) (ao (aa 4) ar))))
      (ag (bP (i:=3) rfl (QF.bor [2] (QE.qf (av (G_q41) (hr.mono (by decide)) rfl T.m_q41 T.k_q41 T.b_q41 (dO 5 (ao (aA aq b3 rfl T.z_len a9 (ae (aw ak dIx (aa 2) ad (fun _ _=>rfl)) ah)) (ao (cx (ae ad (ae ad (ae (aI ir dIC ad ad) ah)))) (ao (cx (ae ad (ae (aI ir dIC ad ad) ah))) ar)))))))))))
      (ag (bE (dD (a8 (cb 2) (a8 (cb 3) cC)))))))),fun ds q h=>?_⟩
  case hl=>intro ds q h; obtain ⟨φ,ns,most,rfl,_⟩:=h; rfl
  obtain ⟨φ,ns,most,rfl,hφ,hl,hm0,hm1,q0⟩:=h
  refine ⟨φ,ns,0,rfl,hφ,by decide,?_⟩
  refine ⟨_,0,rfl,by decide,by decide,fun c m h0=>?_⟩
  refine ⟨c,m,most,rfl,h0,hm0,hm1,fun ps rs c1 m1 hT hle h1=>?_⟩
  have hi:=hT.hi
  refine ⟨rfl,?_⟩
  refine ⟨hφ,?_⟩
  refine ⟨⟨by decide,by decide,by split <;> (first|lia|omega),by split <;> (first|lia|omega)⟩,?_⟩
  refine ⟨fun i ρ=>∃ (as:List Ask) (v4 v5:Option D),ρ = [some (.scr φ ns),some (.int most),some (aL ps rs),some (aO as),v4,v5] ∧ as.length = i ∧ (∀ a ∈ as,AskOk ps a),⟨[],_,_,rfl,rfl,fun a h=>by cases h⟩,?_,?_⟩
  · rintro i d ρ hd ⟨as,v4,v5,rfl,la,hok⟩
    obtain ⟨hi2,rfl⟩:=cE hd
    have hi3:i < 27:=by revert hi2; split <;> (first|lia|omega)
    refine ⟨φ,ns,2 + (i:Int),rfl,hφ,by exact zo69 la hi3,?_⟩
    refine ⟨_,2 + (i:Int),rfl,by exact zo69 la hi3,by exact zo182 la hi3,fun c2 m2 h2=>?_⟩
    refine ⟨⟨by decide,by decide,by decide⟩,⟨by decide,by decide,by decide⟩,?_⟩
    refine ⟨c2,m2,ps,rs,((ps.map D.int).length:Int),[1,3,10 ^ Int.toNat 6],[9,10 ^ Int.toNat 12],rfl,h2,hT,by rw [aK],by decide,by decide,by decide,by decide,by decide,by decide,fun a c3 m3 ha h3=>?_⟩
    refine ⟨rfl,by rw [b4]; exact zo230 la hi3,?_⟩
    refine ⟨as ++ [a],_,_,by rw [← iS]; rfl,by rw [List.length_append,la]; rfl,fun b hb=>?_⟩
    rcases List.mem_append.mp hb with hb | hb
    · exact hok b hb
    · have:b = a:=List.mem_singleton.mp hb
      subst this; exact ha
  · rintro ρ ⟨as,v4,v5,rfl,la,hok⟩
    rw [bM] at la
    have hal:as.length ≤ 27:=by revert la; split <;> (first|lia|omega)
    exact q0 ps rs as hT hle ⟨by exact zo219 la hal,hok⟩ hal
def wF:SpD:=fun ds q=>∃ ps rs a b,ds = [ai ps,.int a,.int b] ∧ Tree ps rs ∧ 1 ≤ a ∧ a ≤ ps.length ∧ 1 ≤ b ∧ b ≤ ps.length ∧ q (.bl (decide (b = a) || iy ps a b)) []
theorem xF (T:Txt K mg A):FnOk P w K mg base CX0 1 A.f_q12 A.d_q12 ["_law_parents","_law_one","_law_other"] (bt [false,false,false] false (wF)):=by
  have S:=wz
  refine fnD T.F_q12 S ⟨[false,false,false],[false,false,false],false⟩ _ ?hl rfl rfl fun cdv Ar outer s H E hr=>⟨_,(ac (cu PassesOwn.never (aS gw dB (aa 1) (aa 2) (aP _)) (ag (aR (i:=1) S.nd rfl (Or.inl rfl) (aw ak dIx (aa 0) (aI bR dI (aa 1) ad) (fun _ _=>rfl)))))
      (ag (aU (cS (cR hr.units) dEq (aa 1) (aa 2) (aP _))))),fun ds q h=>?_⟩
  case hl=>intro ds q h; obtain ⟨ps,rs,a,b,rfl,_⟩:=h; rfl
  obtain ⟨ps,rs,a,b,rfl,hT,a0,a1,b0,b1,q0⟩:=h
  have hp:=hT.up (show 0 < a by exact nJ a0) a1
  obtain ⟨u,hu⟩:=Up.all hT _ (bO ps a) rfl hp.1 (by exact zo0 a1 hp)
  have eU:(a :: u).contains b = (decide (b = a) || iy ps a b):=by
    rw [List.contains_cons,gX hu]
    by_cases e:b = a <;> simp [e]
  rw [← eU] at q0
  refine ⟨fun j ρ=>∃ k:Int,ρ = [some (ai ps),some (.int k),some (.int b)] ∧ 0 ≤ k ∧ k ≤ ps.length ∧ j = k.toNat ∧ ∀ u',Up ps k u' → (a :: u).contains b = u'.contains b,⟨_,a,rfl,by exact zo369 a0,a1,rfl,fun u' h=>by rw [(Up.step (by exact nJ a0) hu).det h]⟩,?_⟩
  rintro j ρ ⟨k,rfl,k0,k1,rfl,hk⟩
  refine (bQ (c:=decide (b < k) = true) (fun c=>?_) (fun c=>?_))
  · have hlt:b < k:=by simpa using c
    have hp':=hT.up (show 0 < k by exact va b0 k0 hlt) k1
    refine bi (bT (by exact zo39 k0 hp') (by exact lZ k1)) ?_
    refine ⟨(bO ps k).toNat,by exact zo22 k0 hp',bO ps k,rfl,hp'.1,by exact zo0 k1 hp',rfl,fun u' h=>?_⟩
    rw [hk _ (.step (by exact qu k0 hp') h),List.contains_cons,show (b == k) = false by simp; exact vf hlt,Bool.false_or]
  · have hle:k ≤ b:=by simp at c; exact uW c
    obtain ⟨u',hu'⟩:=Up.all hT _ k rfl k0 k1
    have e:=hk u' hu'
    have:u'.contains b = decide (k = b):=by
      by_cases hkb:k = b
      · subst hkb; rw [decide_eq_true rfl]; exact List.contains_iff_mem.mpr hu'.head
      · rw [decide_eq_false hkb]
        cases z:u'.contains b with
        | false=>rfl
        | true=>have:=(hu'.le hT k1 b (List.contains_iff_mem.mp z)).2; (first|lia|omega)
    show q (.bl (decide (k = b))) []
    rw [← this,← e]
    exact q0
def sdUnl:SpD:=fun ds q=>∃ ps rs a b,ds = [ai ps,.int a,.int b] ∧ Tree ps rs ∧ 1 ≤ a ∧ a ≤ ps.length ∧ 1 ≤ b ∧ b ≤ ps.length ∧ a ≠ b ∧ q (.bl (aF ps a b)) []
theorem rp (T:Txt K mg A):FnOk P w K mg base CX0 2 A.f_q22 A.d_q22 ["_law_parents","_law_one","_law_other"] (bt [false,false,false] false (sdUnl)):=by
  have G_q12:=xF (P:=P) (w:=w) (base:=base) T
  have S:=xn
  refine fnD T.F_q22 S ⟨[false,false,false],[false,false,false],false⟩ _ ?hl rfl rfl fun cdv Ar outer s H E hr=>⟨_,(ag (aU (dr (f8 (av (G_q12) (hr.mono (by decide)) rfl T.m_q12 T.k_q12 T.b_q12 (ao (aa 0) (ao (aa 1) (ao (aa 2) ar))))) (er (f8 (av (G_q12) (hr.mono (by decide)) rfl T.m_q12 T.k_q12 T.b_q12 (ao (aa 0) (ao (aa 2) (ao (aa 1) ar))))))))),fun ds q h=>?_⟩
  case hl=>intro ds q h; obtain ⟨ps,rs,a,b,rfl,_⟩:=h; rfl
  obtain ⟨ps,rs,a,b,rfl,hT,a0,a1,b0,b1,ab,q0⟩:=h
  refine ⟨ps,rs,a,b,rfl,hT,a0,a1,b0,b1,?_⟩
  rw [decide_eq_false (show ¬ b = a from fun z=>ab z.symm),Bool.false_or]
  unfold aF at q0
  cases e:iy ps a b with
  | true=>rw [e] at q0; exact q0
  | false =>
    rw [e] at q0
    refine ⟨ps,rs,b,a,rfl,hT,b0,b1,a0,a1,?_⟩
    rw [decide_eq_false ab,Bool.false_or]
    exact q0
def sdWh3:SpD:=fun ds q=>∃ d lo hi,ds = [d,.int lo,.int hi] ∧ d.isS = false ∧ q (.bl (btw lo hi d)) []
theorem vn (T:Txt K mg A):FnOk P w K mg base CX0 1 A.f_q27 A.d_q27 ["_law_thing","_law_least","_law_most"] (bt [false,false,false] false (sdWh3)):=by
  have S:=xD
  refine fnD T.F_q27 S ⟨[false,false,false],[false,false,false],false⟩ _ ?hl rfl rfl fun cdv Ar outer s H E hr=>⟨_,(ag (aU (dr (cz rfl T.z_isinstance aX (aa 0) (bW (v:=.ty "int") rfl T.z_int jT rfl)) (dr (f8 (cz rfl T.z_isinstance aX (aa 0) (bW (v:=.ty "bool") rfl T.z_bool nk rfl))) (er (g9 jI jI dB dB (aa 1) (aa 0) (aa 2))))))),fun ds q h=>?_⟩
  case hl=>intro ds q h; obtain ⟨d,lo,hi,rfl,_⟩:=h; rfl
  obtain ⟨d,lo,hi,rfl,hs,q0⟩:=h
  cases d
  case int i =>
    refine (bQ (c:=decide (lo ≤ i) = true) (fun c=>?_) (fun c=>?_))
    · have:btw lo hi (.int i) = decide (i ≤ hi):=by show (decide (lo ≤ i) && decide (i ≤ hi)) = _; rw [c,Bool.true_and]
      rw [this] at q0; exact q0
    · have:btw lo hi (.int i) = false:=by show (decide (lo ≤ i) && decide (i ≤ hi)) = _; rw [Bool.eq_false_iff.mpr c,Bool.false_and]
      rw [this] at q0; exact q0
  all_goals first | exact q0 | cases hs
end
end K47
namespace K47
open PySem L2
section
variable {P:Program} {w:World} {K:PySem.W.Frag} {mg:Str → Option Value} {base:Heap} {A:Adr}
def sN:SpD:=fun ds q=>∃ ps rs a b,ds = [ai ps,.int a,.int b] ∧ Tree ps rs ∧ 0 ≤ a ∧ a ≤ ps.length ∧ 0 ≤ b ∧ b ≤ ps.length ∧ ∀ u d m,Sides ps a b u d m → u.length ≤ 46 → d.length ≤ 46 → q (.tup [ai u,ai d]) []
theorem vB (T:Txt K mg A):FnOk P w K mg base CX0 1 A.f_q26 A.d_q26 ["_law_parents","_law_one","_law_other"] (bt [false,false,false] true (sN)):=by
  have S:=w4
  refine fnD T.F_q26 S ⟨[false,false,false],[false,false,false,true,true],true⟩ _ ?hl rfl rfl fun cdv Ar outer s H E hr=>⟨_,(ac (bv (i:=3) S.nd rfl (Or.inl rfl) (b6 ah))
      (ac (bv (i:=4) S.nd rfl (Or.inl rfl) (b6 ah))
      (ac (cu PassesOwn.never (aS (ci hr.units) dNe (aa 1) (aa 2) (aP _)) (ag (bf (aS gw dB (aa 1) (aa 2) (aP _)) (ac (bP (i:=3) rfl (QE.qf (aa 1)))
      (ag (aR (i:=1) S.nd rfl (Or.inl rfl) (aw ak dIx (aa 0) (aI bR dI (aa 1) ad) (fun _ _=>rfl))))) (ac (bP (i:=4) rfl (QE.qf (aa 2)))
      (ag (aR (i:=2) S.nd rfl (Or.inl rfl) (aw ak dIx (aa 0) (aI bR dI (aa 2) ad) (fun _ _=>rfl))))))))
      (ag (bE (dD (a8 (cb 3) (a8 (cb 4) cC)))))))),fun ds q h=>?_⟩
  case hl=>intro ds q h; obtain ⟨ps,rs,a,b,rfl,_⟩:=h; rfl
  obtain ⟨ps,rs,a,b,rfl,hT,a0,a1,b0,b1,q0⟩:=h
  have hi:=hT.hi
  refine ⟨rfl,?_⟩
  refine ⟨rfl,?_⟩
  refine ⟨fun k ρ=>∃ a' b' U V,ρ = [some (ai ps),some (.int a'),some (.int b'),some (ai U),some (ai V)] ∧ 0 ≤ a' ∧ a' ≤ ps.length ∧ 0 ≤ b' ∧ b' ≤ ps.length ∧ k = (a' + b').toNat ∧ U.length + V.length + (a' + b').toNat ≤ 46 ∧ (∀ u d m,Sides ps a' b' u d m → Sides ps a b (U ++ u) (V ++ d) m),⟨_,a,b,[],[],rfl,a0,a1,b0,b1,rfl,by simp; exact zo56 a1 b1 hi,fun u d m h=>h⟩,?_⟩
  rintro k ρ ⟨a',b',U,V,rfl,a0',a1',b0',b1',rfl,hl,hc⟩
  refine (bQ (c:=(!decide (a' = b')) = true) (fun c=>?_) (fun c=>?_))
  · have hne:a' ≠ b':=by simpa using c
    refine (bQ (c:=decide (b' < a') = true) (fun c2=>?_) (fun c2=>?_))
    · have hlt:b' < a':=of_decide_eq_true c2
      have hp:=hT.up (show 0 < a' by exact zo75 a0' b0' hlt) a1'
      refine ⟨rfl,by show (U.map D.int).length < 1000; rw [List.length_map]; exact zo60 hl hne hlt,?_⟩
      refine bi (bT (by exact zo268 a0' b0' hlt) (by exact lZ a1')) ?_
      refine ⟨(bO ps a' + b').toNat,by exact zo11 hi a0' a1' b0' b1' hne hlt hp,bO ps a',b',U ++ [a'],V,?_,hp.1,by exact zo0 a1' hp,b0',b1',rfl,by rw [List.length_append]; show U.length + 1 + _ + _ ≤ 46; exact zo5 hi a0' a1' b0' b1' hl hne hlt hp,fun u d m h=>by rw [List.append_assoc]; exact hc _ _ _ (.left hlt h)⟩
      rw [show ai (U ++ [a']) = .lst (U.map D.int ++ [.int a']) by unfold ai; rw [List.map_append]; rfl]; rfl
    · have hlt:a' < b':=by rw [decide_eq_true_iff] at c2; exact zo94 hne c2
      have hp:=hT.up (show 0 < b' by exact u6 a0' b0' hlt) b1'
      refine ⟨rfl,by show (V.map D.int).length < 1000; rw [List.length_map]; exact zo59 hl hne hlt,?_⟩
      refine bi (bT (by exact zo39 b0' hp) (by exact lZ b1')) ?_
      refine ⟨(a' + bO ps b').toNat,by exact zo12 hi a0' a1' b0' b1' hne hlt hp,a',bO ps b',U,V ++ [b'],?_,a0',a1',hp.1,by exact zo0 b1' hp,rfl,by rw [List.length_append]; show U.length + (V.length + 1) + _ ≤ 46; exact zo6 hi a0' a1' b0' b1' hl hne hlt hp,fun u d m h=>by rw [List.append_assoc]; exact hc _ _ _ (.right hlt h)⟩
      rw [show ai (V ++ [b']) = .lst (V.map D.int ++ [.int b']) by unfold ai; rw [List.map_append]; rfl]; rfl
  · have:a' = b':=by simpa using c
    subst this
    have hw:=hc [] [] a' (.same a')
    rw [List.append_nil,List.append_nil] at hw
    exact q0 U V a' hw (by exact zo103 hl) (by exact zo102 hl)
def eqTx (b:Bool) (bs:List Bool):D → D
  | .int t=>.bl (bs.getD (t - 1).toNat false == b)
  | d=>d
def tF:SpD:=fun ds q=>∃ ps rs a bs,ds = [ai ps,cT a,dTx bs] ∧ Tree ps rs ∧ Ends2 ps a.one a.other ∧ bs.length = ps.length ∧ q (.bl (de ps a.one a.other bs)) []
theorem vL (T:Txt K mg A):FnOk P w K mg base CX0 2 A.f_q37 A.d_q37 ["_law_parents","_law_ask_here","_law_thing"] (bt [false,false,false] false (tF)):=by
  have G_q26:=vB (P:=P) (w:=w) (base:=base) T
  have S:=vK
  refine fnD T.F_q37 S ⟨[false,false,false],[false,false,false,false,false,false],false⟩ _ ?hl rfl rfl fun cdv Ar outer s H E hr=>⟨_,(ac (eE (QF.qe (bj (G_q26) (hr.mono (by decide)) rfl T.m_q26 T.k_q26 T.b_q26 (ao (aa 0) (ao (aw ak dIx (aa 1) ad (fun _ _=>rfl)) (ao (aw ak dIx (aa 1) ad (fun _ _=>rfl)) ar))))) (bU rfl (aE (az (i:=3) S.nd rfl (Or.inl rfl)) (aE (az (i:=4) S.nd rfl (Or.inl rfl)) bC)) (aj (aj aW))))
      (ac (aR (i:=5) S.nd rfl (Or.inl rfl) (pL kq dCat (d8 ["_law_tie"] [2] ⟨rfl,rfl,by decide +kernel,rfl,rfl,(by first | exact trivial | exact ⟨rfl,trivial⟩ | exact ⟨rfl,rfl,trivial⟩ | exact ⟨rfl,rfl,rfl,trivial⟩ | exact ⟨rfl,rfl,rfl,rfl,trivial⟩),rfl⟩ rfl (bn (aa 3)) (bD 0) (fun _ _ _ _=>⟨(bc (i:=0) (show List.Nodup (["_law_tie","_law_thing"]:List Str) by decide +kernel) rfl (Or.inl rfl)),cB,(cS (cR hr.units) dEq (aw ak dIx (aa 1) (aI bR dI (aa 0) ad) (fun _ _=>rfl)) cP (aP _))⟩)) (d8 ["_law_tie"] [2] ⟨rfl,rfl,by decide +kernel,rfl,rfl,(by first | exact trivial | exact ⟨rfl,trivial⟩ | exact ⟨rfl,rfl,trivial⟩ | exact ⟨rfl,rfl,rfl,trivial⟩ | exact ⟨rfl,rfl,rfl,rfl,trivial⟩),rfl⟩ rfl (bn (aa 4)) (bD 0) (fun _ _ _ _=>⟨(bc (i:=0) (show List.Nodup (["_law_tie","_law_thing"]:List Str) by decide +kernel) rfl (Or.inl rfl)),cB,(cS (cR hr.units) dEq (aw ak dIx (aa 1) (aI bR dI (aa 0) ad) (fun _ _=>rfl)) cP (aP _))⟩))))
      (ag (aU (cS jg dIn (pZ (aa 5)) (b8 (ae ad (ae (aA aq b3 rfl T.z_len a9 (ae (aa 5) ah)) ah))) rfl))))),fun ds q h=>?_⟩
  case hl=>intro ds q h; obtain ⟨ps,rs,a,bs,rfl,_⟩:=h; rfl
  obtain ⟨ps,rs,a,bs,rfl,hT,he,hl,q0⟩:=h
  refine ⟨ps,rs,a.one,a.other,rfl,hT,he.a0,he.a1,he.b0,he.b1,fun u d m hS hu hd=>?_⟩
  have hO:=hS.ok hT he.a0 he.b0 he.a1 he.b1
  rw [← sU (bs:=bs) hT he hO,← pq] at q0
  have hmem:∀ t,t ∈ u ++ d → 0 < t ∧ t ≤ ps.length:=fun t ht=>cD hT he (hO.pm.mem_iff.mpr ht)
  refine ⟨by rw [aK]; exact zo72 hu,?_⟩
  refine cA (eqTx true bs) ?_ ?_
  · intro x hx k hk
    obtain ⟨t,ht,rfl⟩:=dP hx
    have hm:=hmem t (List.mem_append_left _ ht)
    refine bi (nD hm.1 (by exact vb hl hm)) ?_
    refine ⟨d_ _,d_ true,?_⟩
    show k (.bl (eqD (.str (txt (bs.getD (t - 1).toNat false))) (.str (txt true))))
    rw [lX]; exact hk
  refine ⟨by rw [aK]; exact zo72 hd,?_⟩
  refine cA (eqTx false bs) ?_ ?_
  · intro x hx k hk
    obtain ⟨t,ht,rfl⟩:=dP hx
    have hm:=hmem t (List.mem_append_right _ ht)
    refine bi (nD hm.1 (by exact vb hl hm)) ?_
    refine ⟨d_ _,d_ false,?_⟩
    show k (.bl (eqD (.str (txt (bs.getD (t - 1).toNat false))) (.str (txt false))))
    rw [lX]; exact hk
  have em:(u.map D.int).map (eqTx true bs) ++ (d.map D.int).map (eqTx false bs) = (alL bs u d).map D.bl:=by
    unfold alL; rw [List.map_append,List.map_map,List.map_map,List.map_map,List.map_map]; rfl
  refine ⟨by rw [List.length_map,List.length_map,List.length_map,List.length_map]; exact zo278 hu hd,?_⟩
  rw [em]
  refine ⟨alL bs u d,rfl,?_⟩
  refine ⟨rfl,rfl,?_⟩
  have ec:(alL bs u d).countP id = (alL bs u d).count true:=by
    unfold List.count
    congr 1
    funext b; cases b <;> rfl
  show q (.bl (inD (.int (((alL bs u d).countP id:Nat):Int)) [.int 0,.int ((((alL bs u d).map D.bl).length:Nat):Int)])) []
  rw [ec,List.length_map]
  have eI:inD (.int (((alL bs u d).count true:Nat):Int)) [.int 0,.int (((alL bs u d).length:Nat):Int)] = (decide ((alL bs u d).count true = 0) || decide ((alL bs u d).count true = (alL bs u d).length)):=by
    show (decide ((0:Int) = _) || (decide ((((alL bs u d).length:Nat):Int) = _) || false)) = _
    rw [Bool.or_false,Bool.eq_iff_iff,Bool.or_eq_true,Bool.or_eq_true,decide_eq_true_iff,decide_eq_true_iff,decide_eq_true_iff,decide_eq_true_iff]
    (first|lia|omega)
  rw [eI]
  exact q0
def qM:SpD:=fun ds q=>∃ ps rs as x,ds = [aL ps rs,aO as,x] ∧ Tree ps rs ∧ AsksOk ps as ∧ pln x = true ∧ (∀ ds,x = .lst ds → ds.length ≤ 1000 ∧ ∀ d ∈ ds,okT d) ∧ q (.bl (mG ps as x)) []
def noTx:D → Option D:=fun d=>if txB d = true then none else some d
def pK (ps:List Int) (bs:List Bool):D → Option D
  | .tup [.int a,.int b,c,e]=>if de ps a b bs = true then none else some (.tup [.int a,.int b,c,e])
  | _=>none
theorem mS {α:Type} (f : α → Option α) (p : α → Bool):∀ ds:List α,(∀ d ∈ ds,f d = if p d = true then none else some d) → (ds.filterMap f).isEmpty = ds.all p
  | [],_=>rfl
  | d :: ds,h=>by
    have ih:=mS f p ds fun x hx=>h x (.tail _ hx)
    have hd:=h d (.head _)
    rw [List.filterMap_cons,hd,List.all_cons]
    cases e:p d with
    | true=>rw [if_pos rfl,Bool.true_and]; exact ih
    | false=>rw [if_neg (by decide)]; rfl
theorem qa {d:D} (h:okT d) (b:Bool):eqD d (.str (txt b)) = (match d with | .str x=>x == txt b | _=>false):=by
  cases d with
  | str x=>exact gI x _
  | _=>unfold eqD; rw [toP,toP]; first | rfl | (simp [PyData.eqv])
theorem ok_q1 (T:Txt K mg A):FnOk P w K mg base CX0 3 A.f_q1 A.d_q1 ["_law_tree_here","_law_asks","_law_thing"] (bt [false,false,false] false (qM)):=by
  have G_q37:=vL (P:=P) (w:=w) (base:=base) T
  have S:=sc_q1
  refine fnD T.F_q1 S ⟨[false,false,false],[false,false,false],false⟩ _ ?hl rfl rfl fun cdv Ar outer s H E hr=>⟨_,(ac (bf (QW.qt (dH (bu (ba (cz rfl T.z_isinstance aX (aa 2) (bW (v:=.ty "list") rfl T.z_list cp rfl)))) (dc (aS (ci hr.units) dNe (aA aq b3 rfl T.z_len a9 (ae (aa 2) ah)) (aA aq b3 rfl T.z_len a9 (ae (aw ak dIx (aa 0) ad (fun _ _=>rfl)) ah)) (aP _))))) (ag (aU cM)) aQ)
      (ac (cc (bf (aS (rT hr.units) wG (d8 ["_law_word"] [] ⟨rfl,rfl,by decide +kernel,rfl,rfl,(by first | exact trivial | exact ⟨rfl,trivial⟩ | exact ⟨rfl,rfl,trivial⟩ | exact ⟨rfl,rfl,rfl,trivial⟩ | exact ⟨rfl,rfl,rfl,rfl,trivial⟩),rfl⟩ rfl (bn (aa 2)) (bD 0) (fun _ _ _ _=>⟨(bc (i:=0) (show List.Nodup (["_law_word"]:List Str) by decide +kernel) rfl (Or.inl rfl)),(e7 (QW.qt (gb (aS (qT hr.units) dNeT (aa 0) cP (aP _)) (fL (aS (qT hr.units) dNeT (aa 0) cP (aP _)))))),(aa 0)⟩)) (cx ah) (aP _)) (ag (aU cM)) aQ))
      (ag (aU (cS (qL hr.units) wS (d8 ["_law_ask_here"] [2,0] ⟨rfl,rfl,by decide +kernel,rfl,rfl,(by first | exact trivial | exact ⟨rfl,trivial⟩ | exact ⟨rfl,rfl,trivial⟩ | exact ⟨rfl,rfl,rfl,trivial⟩ | exact ⟨rfl,rfl,rfl,rfl,trivial⟩),rfl⟩ rfl (bn (aa 1)) (bD 0) (fun _ _ _ _=>⟨(bc (i:=0) (show List.Nodup (["_law_ask_here","_law_thing","_law_tree_here"]:List Str) by decide +kernel) rfl (Or.inl rfl)),(e7 (bu (ba (av (G_q37) (hr.mono (by decide)) rfl T.m_q37 T.k_q37 T.b_q37 (ao (aw ak dIx (aa 2) ad (fun _ _=>rfl)) (ao (aa 0) (ao (aa 1) ar))))))),(aa 0)⟩)) (cx ah) (aP _)))))),fun ds q h=>?_⟩
  case hl=>intro ds q h; obtain ⟨ps,rs,as,x,rfl,_⟩:=h; rfl
  obtain ⟨ps,rs,as,x,rfl,hT,ha,hp,hlen,q0⟩:=h
  have hal:=ha.len
  cases x with
  | lst ds =>
    obtain ⟨hl,hok⟩:=hlen ds rfl
    have e:mG ps as (.lst ds) = (decide (ds.length = ps.length) && (ds.all txB && as.all fun a=>de ps a.one a.other (ds.map j5))):=rfl
    rw [e] at q0
    refine (bQ (c:=(!decide ((ds.length:Int) = ((ps.map D.int).length:Int))) = true) (fun c1=>?_) (fun c1=>?_))
    · rw [aK] at c1
      rw [decide_eq_false (show ¬ ds.length = ps.length by simp at c1; exact zo310 c1)] at q0; exact q0
    have hdl:ds.length = ps.length:=by rw [aK] at c1; simp at c1; exact zo304 c1
    rw [decide_eq_true hdl,Bool.true_and] at q0
    refine ⟨fun ρ=>ρ = [some (aL ps rs),some (aO as),some (.lst ds)] ∧ ds.all txB = true,?_,?_⟩
    · refine ⟨by exact zo390 hl,?_⟩
      refine dU noTx ?_ ?_
      · intro d hd k hk
        have hd2:=hok d hd
        have e1:=qa hd2 true
        have e2:=qa hd2 false
        have et:txB d = (eqD d (.str (txt true)) || eqD d (.str (txt false))):=by rw [e1,e2]; cases d <;> rfl
        have hk':k (if txB d = true then none else some d):=hk
        rw [et] at hk'
        refine ⟨"up",hd2,d_ true,rfl,?_⟩
        refine (bQ (c:=(!eqD d (.str (txt true))) = true) (fun c=>?_) (fun c=>?_))
        · have c':eqD d (.str (txt true)) = false:=by simpa using c
          rw [c',Bool.false_or] at hk'
          refine ⟨"down",hd2,d_ false,rfl,?_⟩
          refine (bQ (c:=(!eqD d (.str (txt false))) = true) (fun c2=>?_) (fun c2=>?_))
          · have c2':eqD d (.str (txt false)) = false:=by simpa using c2
            rw [c2'] at hk'; exact hk'
          · have c2':eqD d (.str (txt false)) = true:=by simpa using c2
            rw [c2'] at hk'; exact hk'
        · have c':eqD d (.str (txt true)) = true:=by simpa using c
          rw [c',Bool.true_or] at hk'
          exact hk'
      show (if (!(ds.filterMap noTx).isEmpty) = true then _ else _)
      rw [mS noTx txB ds fun _ _=>rfl]
      cases hA:ds.all txB with
      | true=>exact ⟨rfl,rfl⟩
      | false=>rw [hA] at q0; exact q0
    rintro ρ ⟨rfl,hA⟩
    rw [hA,Bool.true_and] at q0
    rw [vv hA]
    have hbl:(ds.map j5).length = ps.length:=by rw [List.length_map]; exact hdl
    generalize ds.map j5 = bs at q0 hbl
    refine ⟨by rw [b4]; exact t9 hal,?_⟩
    refine dU (pK ps bs) ?_ ?_
    · intro d hd k hk
      obtain ⟨a,hm,rfl⟩:=List.mem_map.mp hd
      refine ⟨ps,rs,a,bs,rfl,hT,(ha.ok a hm).ends,hbl,?_⟩
      have hk':k (if de ps a.one a.other bs = true then none else some (cT a)):=hk
      cases e:de ps a.one a.other bs with
      | true=>rw [e] at hk'; exact hk'
      | false=>rw [e] at hk'; exact hk'
    show q (.bl ((as.map cT).filterMap (pK ps bs)).isEmpty) []
    have ef:=mS (pK ps bs) (fun d=>match d with | .tup [.int a,.int b,_,_]=>de ps a b bs | _=>true) (as.map cT) (fun d hd=>by
      obtain ⟨a,hm,rfl⟩:=List.mem_map.mp hd; rfl)
    rw [ef,List.all_map]
    exact q0
  | _=>first | exact q0 | (rw [pln] at hp; cases hp)
end
end K47
namespace K47
open PySem L2
section
variable {P:Program} {w:World} {K:PySem.W.Frag} {mg:Str → Option Value} {base:Heap} {A:Adr}
theorem dC {k:Key}:∀ {ks:List Key},aN ks k = true ↔ k ∈ ks
  | []=>⟨fun h=>(by cases h),fun h=>(by cases h)⟩
  | j :: ks=>by
    unfold aN
    by_cases e:j = k
    · rw [if_pos e]; exact ⟨fun _=>by rw [e]; exact .head _,fun _=>rfl⟩
    · rw [if_neg e,dC (ks:=ks)]
      exact ⟨fun h=>.tail _ h,fun h=>(List.mem_cons.mp h).elim (fun z=>absurd z.symm e) id⟩
theorem gN {ks:List Key} {k j:Key}:j ∈ br ks k ↔ j = k ∨ j ∈ ks:=by
  unfold br
  by_cases e:aN ks k = true
  · rw [if_pos e]; exact ⟨.inr,fun h=>h.elim (fun z=>by rw [z]; exact dC.mp e) id⟩
  · rw [if_neg e,List.mem_append,List.mem_singleton]; exact Or.comm
structure Wd (n:Nat) (ks:List Key) (ds:List D):Prop where
  len:ks.length = ds.length
  key:∀ k ∈ ks,∃ j:Nat,k = .inl (((j + 1:Nat)):Int) ∧ j < n
  val:∀ k d,b7 ks ds k = some d → d = .int 0 ∨ d = .int 1
  nd:ks.Nodup
theorem Wd.nil (n:Nat):Wd n [] []:=⟨rfl,fun k h=>(by cases h),fun k d h=>(by cases h),List.nodup_nil⟩
theorem Wd.few {n:Nat} {ks:List Key} {ds:List D} (h:Wd n ks ds):ks.length ≤ n:=by
  have:=h.nd.length_le_of_subset (l₂:=(List.range n).map fun j=>(.inl (((j + 1:Nat)):Int):Key)) fun k hk=>by
    obtain ⟨j,rfl,hj⟩:=h.key k hk
    exact List.mem_map.mpr ⟨j,List.mem_range.mpr hj,rfl⟩
  rw [List.length_map,List.length_range] at this
  exact this
theorem Wd.put {n:Nat} {ks:List Key} {ds:List D} {t v:Int} (h:Wd n ks ds) (h0 : 1 ≤ t) (h1:t ≤ n) (hv:v = 0 ∨ v = 1):Wd n (br ks (.inl t)) (putAt ks ds (.inl t) (.int v)):=by
  refine ⟨jE h.len,fun k hk=>?_,fun k d hd=>?_,?_⟩
  · rcases gN.mp hk with rfl | hk
    · exact ⟨(t - 1).toNat,by congr 1; exact zo175 h0,by exact zo25 h0 h1⟩
    · exact h.key k hk
  · rw [db h.len] at hd
    split at hd
    · cases hd; exact hv.imp (fun z=>by rw [z]) (fun z=>by rw [z])
    · exact h.val k d hd
  · unfold br
    by_cases e:aN ks (.inl t) = true
    · rw [if_pos e]; exact h.nd
    · rw [if_neg e,List.nodup_append]
      exact ⟨h.nd,by simp,fun a ha b hb z=>e (dC.mpr (by rw [List.mem_singleton.mp hb] at z; rw [← z]; exact ha))⟩
theorem Wd.get {n:Nat} {ks:List Key} {ds:List D} {t:Int} (h:Wd n ks ds) (e:aN ks (.inl t) = true):∃ v:Int,b7 ks ds (.inl t) = some (.int v) ∧ (v = 0 ∨ v = 1):=by
  have:=e6 (k:=.inl t) h.len
  rw [e] at this
  obtain ⟨d,hd⟩:=Option.isSome_iff_exists.mp this
  rcases h.val _ _ hd with rfl | rfl
  · exact ⟨0,hd,.inl rfl⟩
  · exact ⟨1,hd,.inr rfl⟩
theorem sZ {ks:List Key} {k:Key}:aN (br ks k) k = true:=dC.mpr (gN.mpr (.inl rfl))
theorem eA {ks:List Key} {k j:Key} (h:aN ks j = true):aN (br ks k) j = true:=dC.mpr (gN.mpr (.inr (dC.mp h)))
theorem nQ {ks:List Key} {k:Key}:ks.length ≤ (br ks k).length:=by
  unfold br; split
  · exact Nat.le_refl _
  · rw [List.length_append]; exact zo359
theorem tw {ks:List Key} {k:Key} (h:aN ks k = false):(br ks k).length = ks.length + 1:=by
  unfold br; rw [h]; exact List.length_append
def SubK (a b:List Key):Prop:=∀ k,aN a k = true → aN b k = true
def nwF (g:Bool) (ks:List Key):D → Option D
  | .int t=>if (g && !aN ks (.inl t)) = true then some (.int t) else none
  | _=>none
theorem oh (g:Bool) (ks:List Key):∀ w:List Int,(w.map D.int).filterMap (nwF g ks) = (w.filter fun t=>g && !aN ks (.inl t)).map D.int
  | []=>rfl
  | t :: w=>by
    rw [List.map_cons,List.filterMap_cons,List.filter_cons,oh g ks w]
    have q:nwF g ks (D.int t) = if (g && !aN ks (.inl t)) = true then some (D.int t) else none:=rfl
    rw [q]
    by_cases e:(g && !aN ks (.inl t)) = true
    · rw [if_pos e,if_pos e]; rfl
    · rw [if_neg e,if_neg e]
def vz (ks:List Key) (ds:List D) (t:Int):Bool:=match b7 ks ds (.inl t) with
  | some (.int v)=>decide (v = 0)
  | _=>true
theorem tZ {ks:List Key} {ds:List D} {t v:Int} (h:b7 ks ds (.inl t) = some (.int v)):vz ks ds t = decide (v = 0):=by unfold vz; rw [h]
def wdG (ks:List Key) (ds:List D):D → D
  | .int t=>.str (txt (vz ks ds t))
  | d=>d
def Pt (ps:List Int) (W:List (List Int)) (p:List Bool):Prop:=∀ v ∈ W,∀ x ∈ v,∀ y ∈ v,x ≠ y → (wd p x != wd p y) = aF ps x y
def Clv (ks:List Key) (v:List Int):Prop:=∀ x ∈ v,aN ks (.inl x) = true → ∀ y ∈ v,aN ks (.inl y) = true
structure Cl (ps:List Int) (W:List (List Int)) (ks:List Key) (ds:List D):Prop where
  cl:∀ v ∈ W,Clv ks v
  cn:∀ p,Pt ps W p → ∀ v ∈ W,∀ x ∈ v,aN ks (.inl x) = true → ∀ y ∈ v,(vz ks ds x != wd p x) = (vz ks ds y != wd p y)
structure Spr (ps:List Int) (W:List (List Int)) (ks0:List Key) (ds0:List D) (ks:List Key) (ds:List D):Prop where
  sub:∀ t:Int,aN ks0 (.inl t) = true → aN ks (.inl t) = true ∧ b7 ks ds (.inl t) = b7 ks0 ds0 (.inl t)
  nw:∀ p,Pt ps W p → ∃ c0:Bool,∀ t:Int,aN ks (.inl t) = true → aN ks0 (.inl t) = false → (vz ks ds t != wd p t) = c0
theorem Spr.refl (ps:List Int) (W:List (List Int)) (ks:List Key) (ds:List D):Spr ps W ks ds ks ds:=⟨fun t h=>⟨h,rfl⟩,fun p _=>⟨true,fun t h h'=>by rw [h] at h'; cases h'⟩⟩
theorem dA {ks:List Key} {k j:Key}:aN (br ks k) j = true ↔ j = k ∨ aN ks j = true:=by rw [dC,gN,dC]
theorem kj {ks:List Key} {ds:List D} {t v s:Int} (hl:ks.length = ds.length):vz (br ks (.inl t)) (putAt ks ds (.inl t) (.int v)) s = if s = t then decide (v = 0) else vz ks ds s:=by
  unfold vz
  rw [db hl]
  by_cases e:s = t
  · rw [if_pos e,if_pos (by rw [e])]
  · rw [if_neg e,if_neg (fun z=>e (Sum.inl.inj z))]
theorem Spr.put {ps:List Int} {W:List (List Int)} {ks0 ks:List Key} {ds0 ds:List D} {t v:Int} (h:Spr ps W ks0 ds0 ks ds) (hl:ks.length = ds.length) (ht:aN ks0 (.inl t) = false)
    (hv:∀ p,Pt ps W p → ∀ c0:Bool,(∀ t:Int,aN ks (.inl t) = true → aN ks0 (.inl t) = false → (vz ks ds t != wd p t) = c0) → (decide (v = 0) != wd p t) = c0):Spr ps W ks0 ds0 (br ks (.inl t)) (putAt ks ds (.inl t) (.int v)):=by
  refine ⟨fun s hs=>?_,fun p hp=>?_⟩
  · obtain ⟨a,b⟩:=h.sub s hs
    refine ⟨eA a,?_⟩
    rw [db hl,if_neg (fun z=>?_)]
    · exact b
    · rw [Sum.inl.inj z,ht] at hs; cases hs
  · obtain ⟨c0,hc⟩:=h.nw p hp
    refine ⟨c0,fun s hs hs0=>?_⟩
    rw [kj hl]
    by_cases e:s = t
    · rw [if_pos e,e]; exact hv p hp c0 hc
    · rw [if_neg e]
      refine hc s ?_ hs0
      rcases dA.mp hs with z | z
      · exact absurd (Sum.inl.inj z) e
      · exact z
theorem Spr.first {ps:List Int} {W:List (List Int)} {ks:List Key} {ds:List D} {t v:Int} (hl:ks.length = ds.length) (ht:aN ks (.inl t) = false):Spr ps W ks ds (br ks (.inl t)) (putAt ks ds (.inl t) (.int v)):=by
  refine ⟨fun s hs=>?_,fun p hp=>⟨decide (v = 0) != wd p t,fun s hs hs0=>?_⟩⟩
  · refine ⟨eA hs,?_⟩
    rw [db hl,if_neg (fun z=>?_)]
    rw [Sum.inl.inj z,ht] at hs; cases hs
  · rw [kj hl]
    rcases dA.mp hs with z | z
    · have:=Sum.inl.inj z; subst this; rw [if_pos rfl]
    · rw [hs0] at z; cases z
theorem Spr.done {ps:List Int} {W:List (List Int)} {ks0 ks:List Key} {ds0 ds:List D} (h0:Cl ps W ks0 ds0) (h:Spr ps W ks0 ds0 ks ds) (hc:∀ v ∈ W,Clv ks v):Cl ps W ks ds:=by
  refine ⟨hc,fun p hp v hv x hx hkx y hy=>?_⟩
  have hky:=hc v hv x hx hkx y hy
  have same:∀ s:Int,aN ks0 (.inl s) = true → vz ks ds s = vz ks0 ds0 s:=fun s hs=>by unfold vz; rw [(h.sub s hs).2]
  cases e:aN ks0 (.inl x) with
  | true =>
    have e2:=h0.cl v hv x hx e y hy
    rw [same x e,same y e2]
    exact h0.cn p hp v hv x hx e y hy
  | false =>
    have e2:aN ks0 (.inl y) = false:=by
      cases z:aN ks0 (.inl y) with
      | false=>rfl
      | true=>have:=h0.cl v hv y hy z x hx; rw [e] at this; cases this
    obtain ⟨c0,hn⟩:=h.nw p hp
    rw [hn x hkx e,hn y hky e2]
theorem pt_of {ps rs:List Int} {as:List Ask} {p:List Bool} (hT:Tree ps rs) (ha:AsksOk ps as) (h:∀ a ∈ as,de ps a.one a.other p = true):Pt ps (as.map fun a=>bp ps a) p:=fun v hv x hx y hy e=>by
  obtain ⟨a,hm,rfl⟩:=List.mem_map.mp hv
  exact (gi hT (ha.ok a hm).ends).mp (h a hm) x hx y hy e
theorem vT {ps rs:List Int} {as:List Ask} {ks:List Key} {ds:List D} {p bs:List Bool} (hT:Tree ps rs) (ha:AsksOk ps as) (hp:Pt ps (as.map fun a=>bp ps a) p) (hc:Cl ps (as.map fun a=>bp ps a) ks ds) (hall:∀ t:Int,1 ≤ t → t ≤ ps.length → aN ks (.inl t) = true ∧ wd bs t = vz ks ds t):∀ a ∈ as,de ps a.one a.other bs = true:=fun a hm=>by
  have he:=(ha.ok a hm).ends
  have hv:bp ps a ∈ as.map fun a=>bp ps a:=List.mem_map.mpr ⟨a,hm,rfl⟩
  refine (gi hT he).mpr fun x hx y hy e=>?_
  have mx:=cD hT he hx
  have my:=cD hT he hy
  have ax:=hall x (by exact zo1 mx) mx.2
  have ay:=hall y (by exact zo1 my) my.2
  have h1:=hp _ hv x hx y hy e
  have h2:=hc.cn p hp _ hv x hx ax.1 y hy
  rw [ax.2,ay.2,← h1]
  revert h2
  generalize vz ks ds x = a1
  generalize vz ks ds y = a2
  generalize wd p x = a3
  generalize wd p y = a4
  cases a1 <;> cases a2 <;> cases a3 <;> cases a4 <;> decide
def rP:SpD:=fun ds q=>∃ ps rs as,ds = [aL ps rs,aO as] ∧ Tree ps rs ∧ AsksOk ps as ∧ ∀ bs:List Bool,bs.length = ps.length → (∀ p:List Bool,(∀ a ∈ as,de ps a.one a.other p = true) → ∀ a ∈ as,de ps a.one a.other bs = true) → q (dTx bs) []
theorem vY (T:Txt K mg A):FnOk P w K mg base CX0 3 A.f_q21 A.d_q21 ["_law_tree_here","_law_asks"] (bt [false,false] true (rP)):=by
  have G_q22:=rp (P:=P) (w:=w) (base:=base) T
  have G_q42:=l3 (P:=P) (w:=w) (base:=base) T
  have S:=wg
  refine fnD T.F_q21 S ⟨[false,false],[false,false,true,false,false,false,false,false,false],true⟩ _ ?hl rfl rfl fun cdv Ar outer s H E hr=>⟨_,(ac (bv (i:=2) S.nd rfl (Or.inr rfl) nN)
      (ac (fi (i:=3) ["_law_ask_here"] [0] ⟨rfl,rfl,by decide +kernel,rfl,rfl,(by first | exact trivial | exact ⟨rfl,trivial⟩ | exact ⟨rfl,rfl,trivial⟩ | exact ⟨rfl,rfl,rfl,trivial⟩ | exact ⟨rfl,rfl,rfl,rfl,trivial⟩),rfl⟩ rfl S.nd rfl (Or.inl rfl) (bn (aa 1)) (bD 0) (fun _ _ _ _=>⟨(bc (i:=0) (show List.Nodup (["_law_ask_here","_law_tree_here"]:List Str) by decide +kernel) rfl (Or.inl rfl)),cB,(QF.qe (bj (G_q42) (hr.mono (by decide)) rfl T.m_q42 T.k_q42 T.b_q42 (ao (aw ak dIx (aa 1) ad (fun _ _=>rfl)) (ao (aw ak dIx (aa 0) ad (fun _ _=>rfl)) (ao (aw ak dIx (aa 0) ad (fun _ _=>rfl)) ar)))))⟩))
      (ac (bH PassesOwn.never rfl (eW rfl T.z_range (ae ad (ae (aI bh dI (aA aq b3 rfl T.z_len a9 (ae (aw ak dIx (aa 0) ad (fun _ _=>rfl)) ah)) ad) ah))) (az (i:=4) S.nd rfl (Or.inl rfl)) (ac (aR (i:=5) S.nd rfl (Or.inl rfl) (QE.bor [2] (cS (eX (cH hr)) nK (aa 4) (aa 2) rfl)))
      (ac (cc (bf (ba (aa 5)) (ag (ft (i:=2) (cH hr) rfl ad (aa 4))) aQ))
      (ag (cu PassesOwn.never (ba (aa 5)) (ac (aR (i:=5) S.nd rfl (Or.inl rfl) cM)
      (ag (bH PassesOwn.never rfl (bn (aa 3)) (az (i:=6) S.nd rfl (Or.inl rfl)) (ac (aR (i:=7) S.nd rfl (Or.inr rfl) (QF.qe (QF.bor [2] (qA (d8 ["_law_tie"] [2] ⟨rfl,rfl,by decide +kernel,rfl,rfl,(by first | exact trivial | exact ⟨rfl,trivial⟩ | exact ⟨rfl,rfl,trivial⟩ | exact ⟨rfl,rfl,rfl,trivial⟩ | exact ⟨rfl,rfl,rfl,rfl,trivial⟩),rfl⟩ rfl (bn (aa 6)) (bD 0) (fun _ _ _ _=>⟨(bc (i:=0) (show List.Nodup (["_law_tie","_law_words"]:List Str) by decide +kernel) rfl (Or.inl rfl)),(e7 (aS (xG (cH hr)) dInK (aa 0) (aa 1) rfl)),(aa 0)⟩)) kI (kf ad)))))
      (ag (bH PassesOwn.never rfl (bn (QF.qe (QF.bor [2] (nE ["_law_one"] [7,2] ⟨rfl,rfl,by decide +kernel,rfl,rfl,(by first | exact trivial | exact ⟨rfl,trivial⟩ | exact ⟨rfl,rfl,trivial⟩ | exact ⟨rfl,rfl,rfl,trivial⟩ | exact ⟨rfl,rfl,rfl,rfl,trivial⟩),rfl⟩ rfl (bn (aa 6)) (bD 0) (fun _ _ _ _=>⟨(bc (i:=0) (show List.Nodup (["_law_one","_law_known","_law_words"]:List Str) by decide +kernel) rfl (Or.inl rfl)),(e7 (QW.qt (gb (aS (ci hr.units) dNe (aa 1) (cx ah) (aP _)) (fL (aS (eX (cH hr)) nK (aa 0) (aa 2) rfl))))),(aa 0)⟩))))) (az (i:=8) S.nd rfl (Or.inl rfl)) (ac (ft (i:=2) (cH hr) rfl (QE.bor [2] (d5 (cH hr) (aa 2) (aw ak dIx (aa 7) ad (fun _ _=>rfl)))) (aa 8))
      (ac (cc (bf (ba (av (G_q22) (hr.mono (by decide)) rfl T.m_q22 T.k_q22 T.b_q22 (ao (aw ak dIx (aa 0) ad (fun _ _=>rfl)) (ao (aa 8) (ao (aw ak dIx (aa 7) ad (fun _ _=>rfl)) ar))))) (ag (ft (i:=2) (cH hr) rfl (QE.bor [2] (aI bR dI ad (d5 (cH hr) (aa 2) (aa 8)))) (aa 8))) aQ))
      (ag (aR (i:=5) S.nd rfl (Or.inl rfl) cM)))))))))))))))
      (ag (bE (QF.qm (QF.bor [2] (nE ["_law_tie"] [2] ⟨rfl,rfl,by decide +kernel,rfl,rfl,(by first | exact trivial | exact ⟨rfl,trivial⟩ | exact ⟨rfl,rfl,trivial⟩ | exact ⟨rfl,rfl,rfl,trivial⟩ | exact ⟨rfl,rfl,rfl,rfl,trivial⟩),rfl⟩ rfl (eW rfl T.z_range (ae ad (ae (aI bh dI (aA aq b3 rfl T.z_len a9 (ae (aw ak dIx (aa 0) ad (fun _ _=>rfl)) ah)) ad) ah))) (bD 0) (fun _ _ _ _=>⟨(bc (i:=0) (show List.Nodup (["_law_tie","_law_words"]:List Str) by decide +kernel) rfl (Or.inl rfl)),cB,(aw ak dIx (cx (ae cP (ae cP ah))) (d5 (cH hr) (aa 1) (aa 0)) (fun _ _=>rfl))⟩))))))))),fun ds q h=>?_⟩
  case hl=>intro ds q h; obtain ⟨ps,rs,as,rfl,_⟩:=h; rfl
  obtain ⟨ps,rs,as,rfl,hT,ha,q0⟩:=h
  have hal:=ha.len
  have hti:=hT.hi
  refine ⟨by rw [b4]; exact t9 hal,?_⟩
  refine cA (fun d=>match d with | .tup [.int a,.int b,_,_]=>ai (b5 ps a b) | d=>d) ?_ ?_
  · intro d hd kk hk
    obtain ⟨x,hm,rfl⟩:=List.mem_map.mp hd
    have he:=(ha.ok x hm).ends
    exact ⟨ps,rs,x.one,x.other,rfl,hT,he.a0,he.a1,he.b0,he.b1,hk⟩
  rw [show (as.map cT).map (fun d=>match d with | .tup [.int a,.int b,_,_]=>ai (b5 ps a b) | d=>d) = (as.map fun a=>bp ps a).map ai by rw [List.map_map,List.map_map]; rfl]
  have hW:∀ v ∈ as.map (fun a=>bp ps a),v.length ≤ 46 ∧ ∀ t ∈ v,0 < t ∧ t ≤ (ps.length:Int):=fun v hv=>by
    obtain ⟨a,hm,rfl⟩:=List.mem_map.mp hv
    have he:=(ha.ok a hm).ends
    exact ⟨jf hT he,fun t ht=>cD hT he ht⟩
  have hfin:∀ (ks:List Key) (ds:List D) (bs:List Bool),bs.length = ps.length → Cl ps (as.map fun a=>bp ps a) ks ds → (∀ t:Int,1 ≤ t → t ≤ ps.length → aN ks (.inl t) = true ∧ wd bs t = vz ks ds t) → q (dTx bs) []:=fun ks ds bs hl hc hall=>q0 bs hl fun p hp=>vT hT ha (pt_of hT ha hp) hc hall
  generalize as.map (fun a=>bp ps a) = W at hW hfin
  refine ⟨⟨by decide,by decide,by rw [aK]; exact uP hti,by rw [aK]; exact ue hti⟩,?_⟩
  refine ⟨fun i ρ=>∃ ks ds v4 v5 v6 v7 v8,ρ = [some (aL ps rs),some (aO as),some (.dic ks ds),some (.lst (W.map ai)),v4,v5,v6,v7,v8] ∧ Wd ps.length ks ds ∧ Cl ps W ks ds ∧ ∀ j:Nat,j < i → aN ks (.inl (((j + 1:Nat)):Int)) = true,⟨_,_,_,_,_,_,_,rfl,Wd.nil _,⟨fun v _ x _ h=>(by cases h),fun p _ v _ x _ h=>(by cases h)⟩,fun j h=>absurd h (Nat.not_lt_zero _)⟩,?_,?_⟩
  · rintro i d ρ hd ⟨ks0,ds0,v4,v5,v6,v7,v8,rfl,hw,hc0,hj⟩
    obtain ⟨hi,rfl⟩:=cE hd
    rw [aK] at hi
    refine ⟨.inl (1 + (i:Int)),rfl,?_⟩
    refine ⟨rfl,?_⟩
    refine ⟨fun ρ=>∃ ks ds mo,ρ = [some (aL ps rs),some (aO as),some (.dic ks ds),some (.lst (W.map ai)),some (.int (1 + (i:Int))),some (.bl mo),v6,v7,v8] ∧ Wd ps.length ks ds ∧ Spr ps W ks0 ds0 ks ds ∧ (mo = false → ∀ v ∈ W,Clv ks v) ∧ ∀ j:Nat,j < i + 1 → aN ks (.inl (((j + 1:Nat)):Int)) = true,?_,?_⟩
    · refine (bQ (c:=(!aN ks0 (.inl (1 + (i:Int)))) = true) (fun c=>?_) (fun c=>?_))
      · have cf:aN ks0 (.inl (1 + (i:Int))) = false:=by simpa using c
        refine ⟨rfl,.inl (1 + (i:Int)),rfl,by have:=hw.few; exact qk hti this,?_⟩
        refine ⟨_,_,_,rfl,hw.put (by exact qo) (by exact zo207 hi) (.inl rfl),Spr.first hw.len cf,fun z=>(by rw [c] at z; cases z),fun j hj2=>?_⟩
        by_cases e:j = i
        · subst e; rw [show ((j + 1:Nat):Int) = 1 + (j:Int) by exact sh]; exact sZ
        · exact eA (hj j (by exact pU hj2 e))
      · refine ⟨_,_,_,rfl,hw,Spr.refl _ _ _ _,fun _=>hc0.cl,fun j hj2=>?_⟩
        by_cases e:j = i
        · subst e; rw [show ((j + 1:Nat):Int) = 1 + (j:Int) by exact sh]; simpa using c
        · exact hj j (by exact pU hj2 e)
    rintro ρ ⟨ks,ds,mo,rfl,hw,hsp,hmo,hj⟩
    refine ⟨fun m ρ=>∃ ks ds mo v6 v7 v8,ρ = [some (aL ps rs),some (aO as),some (.dic ks ds),some (.lst (W.map ai)),some (.int (1 + (i:Int))),some (.bl mo),v6,v7,v8] ∧ Wd ps.length ks ds ∧ Spr ps W ks0 ds0 ks ds ∧ (mo = false → ∀ v ∈ W,Clv ks v) ∧ (∀ j:Nat,j < i + 1 → aN ks (.inl (((j + 1:Nat)):Int)) = true) ∧ m = 2 * (ps.length - ks.length) + (if mo = true then 1 else 0),⟨_,ks,ds,mo,_,_,_,rfl,hw,hsp,hmo,hj,rfl⟩,?_⟩
    rintro m ρ ⟨ks,ds,mo,v6,v7,v8,rfl,hw,hsp,hmo,hj,rfl⟩
    cases mo with
    | false=>exact ⟨_,_,_,_,_,_,_,rfl,hw,hsp.done hc0 (hmo rfl),hj⟩
    | true =>
      refine ⟨fun l ρ=>∃ ks' ds' mo v6 v7 v8,ρ = [some (aL ps rs),some (aO as),some (.dic ks' ds'),some (.lst (W.map ai)),some (.int (1 + (i:Int))),some (.bl mo),v6,v7,v8] ∧ Wd ps.length ks' ds' ∧ SubK ks ks' ∧ ks.length ≤ ks'.length ∧ (mo = true → ks.length < ks'.length) ∧ Spr ps W ks0 ds0 ks' ds' ∧ (mo = false → ∀ v ∈ W.take l,Clv ks' v),⟨ks,ds,false,_,_,_,rfl,hw,fun _ h=>h,Nat.le_refl _,fun h=>(by cases h),hsp,fun _ v h=>(by cases h)⟩,?_,?_⟩
      rotate_left
      · rintro ρ ⟨ks',ds',mo,v6,v7,v8,rfl,hw',hs,hl1,hl2,hsp',hmo'⟩
        rw [List.length_map,List.take_length] at hmo'
        have hf:=hw'.few
        have hf0:=hw.few
        refine ⟨2 * (ps.length - ks'.length) + (if mo = true then 1 else 0),?_,ks',ds',mo,_,_,_,rfl,hw',hsp',hmo',fun j hj2=>hs _ (hj j hj2),rfl⟩
        cases mo with
        | true=>have:=hl2 rfl; rw [if_pos rfl]; exact zo43 hf hf0 this
        | false=>rw [if_neg (by decide),if_pos rfl]; exact zo47 hl1 hf hf0
      rintro l d ρ hd ⟨ks',ds',mo,v6,v7,v8,rfl,hw',hs,hl1,hl2,hsp',hmo'⟩
      obtain ⟨v,hv,rfl⟩:∃ v,W[l]? = some v ∧ ai v = d:=by rw [List.getElem?_map] at hd; exact Option.map_eq_some_iff.mp hd
      have hvW:=List.mem_of_getElem? hv
      obtain ⟨hv46,hvm⟩:=hW v hvW
      refine ⟨by rw [aK]; exact zo72 hv46,?_⟩
      refine dU (rD ks') ?_ ?_
      · intro d hd k hk
        obtain ⟨t,ht,rfl⟩:=dP hd
        refine ⟨.inl t,rfl,?_⟩
        change k (if aN ks' (.inl t) = true then some (.int t) else none) at hk
        show if aN ks' (.inl t) = true then k (some (.int t)) else k none
        cases e:aN ks' (.inl t) with
        | true=>rw [e] at hk; exact hk
        | false=>rw [e] at hk; exact hk
      rw [jk]
      have ek:gr ((v.filter fun t=>aN ks' (.inl t)).map D.int) none (some 1) = ((v.filter fun t=>aN ks' (.inl t)).take 1).map D.int:=by rw [i8 (by decide),List.map_take]; rfl
      have hkn:((v.filter fun t=>aN ks' (.inl t)).take 1 = [] ∧ ∀ x ∈ v,aN ks' (.inl x) = false) ∨ ∃ t0,(v.filter fun t=>aN ks' (.inl t)).take 1 = [t0] ∧ 0 < t0 ∧ t0 ≤ (ps.length:Int) ∧ aN ks' (.inl t0) = true ∧ t0 ∈ v:=by
        cases hF:v.filter (fun t=>aN ks' (.inl t)) with
        | nil=>exact .inl ⟨rfl,fun x hx=>by
            cases z:aN ks' (.inl x) with
            | false=>rfl
            | true =>
              have:x ∈ v.filter (fun t=>aN ks' (.inl t)):=List.mem_filter.mpr ⟨hx,z⟩
              rw [hF] at this; cases this⟩
        | cons t0 r =>
          have hm:t0 ∈ v.filter (fun t=>aN ks' (.inl t)):=by rw [hF]; exact .head _
          obtain ⟨m1,m2⟩:=List.mem_filter.mp hm
          exact .inr ⟨t0,rfl,(hvm t0 m1).1,(hvm t0 m1).2,m2,m1⟩
      show _ ∧ _
      rw [ek]
      generalize (v.filter fun t=>aN ks' (.inl t)).take 1 = kn at hkn
      refine ⟨bV _,?_⟩
      refine ⟨by rw [aK]; exact zo72 hv46,?_⟩
      refine dU (nwF (!eqD (ai kn) (ai [])) ks') ?_ ?_
      · intro d hd k hk
        obtain ⟨t,ht,rfl⟩:=dP hd
        change k (if ((!eqD (ai kn) (ai [])) && !aN ks' (.inl t)) = true then some (.int t) else none) at hk
        refine ⟨fM kn,fM [],?_⟩
        refine (bQ (c:=(!eqD (ai kn) (ai [])) = true) (fun c=>?_) (fun c=>?_))
        · rw [c,Bool.true_and] at hk
          refine ⟨.inl t,rfl,?_⟩
          show if (!aN ks' (.inl t)) = true then k (some (.int t)) else k none
          cases e:aN ks' (.inl t) with
          | true=>rw [e] at hk; exact hk
          | false=>rw [e] at hk; exact hk
        · rw [Bool.eq_false_iff.mpr c,Bool.false_and] at hk
          exact hk
      rw [oh]
      refine ⟨bV _,fun j ρ=>∃ ks2 ds2 mo2 v8,ρ = [some (aL ps rs),some (aO as),some (.dic ks2 ds2),some (.lst (W.map ai)),some (.int (1 + (i:Int))),some (.bl mo2),some (ai v),some (ai kn),v8] ∧ Wd ps.length ks2 ds2 ∧ SubK ks' ks2 ∧ ks'.length ≤ ks2.length ∧ (j = 0 → ks2 = ks' ∧ mo2 = mo) ∧ (0 < j → ks'.length < ks2.length ∧ mo2 = true) ∧ Spr ps W ks0 ds0 ks2 ds2,⟨ks',ds',mo,_,rfl,hw',fun _ h=>h,Nat.le_refl _,fun _=>⟨rfl,rfl⟩,fun h=>absurd h (Nat.lt_irrefl _),hsp'⟩,?_,?_⟩
      rotate_left
      · rintro ρ ⟨ks2,ds2,mo2,v8,rfl,hw2,hs2,hl3,hz,hp,hsp2⟩
        refine ⟨ks2,ds2,mo2,_,_,_,rfl,hw2,fun k h=>hs2 k (hs k h),by exact zo245 hl1 hl3,fun h=>?_,hsp2,fun h=>?_⟩
        · rcases Nat.eq_zero_or_pos (((v.filter fun t=>(!eqD (ai kn) (ai [])) && !aN ks' (.inl t)).map D.int).length) with e | e
          · obtain ⟨e1,e2⟩:=hz e
            rw [e1]; exact hl2 (e2 ▸ h)
          · have:=(hp e).1; exact zo236 hl1 this
        · rcases Nat.eq_zero_or_pos (((v.filter fun t=>(!eqD (ai kn) (ai [])) && !aN ks' (.inl t)).map D.int).length) with e | e
          · obtain ⟨e1,e2⟩:=hz e
            intro v' hv'
            rw [e1]
            rw [List.take_add_one,hv] at hv'
            rcases List.mem_append.mp hv' with z | z
            · exact hmo' (e2 ▸ h) v' z
            · have:v' = v:=by simpa using z
              subst this
              rcases hkn with ⟨rfl,hno⟩ | ⟨t0,rfl,t00,t01,t02,t03⟩
              · intro x hx hkx; rw [hno x hx] at hkx; cases hkx
              · intro x _ _ y hy
                rw [List.length_map,List.length_eq_zero_iff] at e
                cases hky:aN ks' (.inl y) with
                | true=>rfl
                | false =>
                  have:y ∈ v'.filter fun t=>(!eqD (ai [t0]) (ai [])) && !aN ks' (.inl t):=List.mem_filter.mpr ⟨hy,by rw [hky,eqDi]; rfl⟩
                  rw [e] at this; cases this
          · rw [(hp e).2] at h; cases h
      rintro j d ρ hd ⟨ks2,ds2,mo2,v8,rfl,hw2,hs2,hl3,hz,hp,hsp2⟩
      obtain ⟨t,ht,rfl⟩:=gS hd
      obtain ⟨ht1,ce⟩:=List.mem_filter.mp (List.mem_of_getElem? ht)
      have hmt:=hvm t ht1
      rw [Bool.and_eq_true] at ce
      have hnt:aN ks' (.inl t) = false:=by simpa using ce.2
      rcases hkn with ⟨rfl,_⟩ | ⟨t0,rfl,t00,t01,t02,t03⟩
      · have:=ce.1; rw [eqDi] at this; simp at this
      have ht0n:aN ks0 (.inl t) = false:=by
        cases z:aN ks0 (.inl t) with
        | false=>rfl
        | true=>rw [(hsp'.sub t z).1] at hnt; cases hnt
      have ht00:aN ks0 (.inl t0) = false:=by
        cases z:aN ks0 (.inl t0) with
        | false=>rfl
        | true=>rw [hc0.cl v hvW t0 t03 z t ht1] at ht0n; cases ht0n
      have htne:t ≠ t0:=fun z=>by rw [z,t02] at hnt; cases hnt
      obtain ⟨v0,hv0,hv01⟩:=hw2.get (hs2 _ t02)
      refine ⟨.inl t0,.int v0,rfl,hv0,?_⟩
      have hf2:=hw2.few
      have hlt:ks'.length < (br ks2 (.inl t)).length:=by
        rcases Nat.eq_zero_or_pos j with e | e
        · rw [(hz e).1,tw hnt]; exact uA
        · have:=(hp e).1; have:=nQ (ks:=ks2) (k:=.inl t); (first|lia|omega)
      refine ⟨rfl,rfl,.inl t,rfl,by exact qk hti hf2,?_⟩
      have hw3:=hw2.put (t:=t) (by exact zo1 hmt) hmt.2 hv01
      refine ⟨fun ρ=>∃ ks3 ds3,ρ = [some (aL ps rs),some (aO as),some (.dic ks3 ds3),some (.lst (W.map ai)),some (.int (1 + (i:Int))),some (.bl mo2),some (ai v),some (ai [t0]),some (.int t)] ∧ Wd ps.length ks3 ds3 ∧ SubK ks' ks3 ∧ ks'.length < ks3.length ∧ Spr ps W ks0 ds0 ks3 ds3,?_,?_⟩
      · have hvz0:=tZ hv0
        have hk20:=hs2 _ t02
        have key:∀ (b:Bool) (x:Int),aF ps t t0 = b → (decide (x = 0) = (decide (v0 = 0) != b)) → ∀ p,Pt ps W p → ∀ c0:Bool,(∀ t:Int,aN ks2 (.inl t) = true → aN ks0 (.inl t) = false → (vz ks2 ds2 t != wd p t) = c0) → (decide (x = 0) != wd p t) = c0:=fun b x hb hx p hp c0 hc=>by
          have h1:=hc t0 hk20 ht00
          have h2:=hp v hvW t ht1 t0 t03 htne
          rw [hvz0] at h1
          rw [hx,← hb,← h2,← h1]
          generalize decide (v0 = 0) = a1
          generalize wd p t = a2
          generalize wd p t0 = a3
          cases a1 <;> cases a2 <;> cases a3 <;> decide
        refine ⟨ps,rs,t,t0,rfl,hT,by exact zo1 hmt,hmt.2,by exact zo290 t00,t01,htne,?_⟩
        cases eb:aF ps t t0 with
        | false=>exact ⟨_,_,rfl,hw3,fun k h=>eA (hs2 k h),hlt,hsp2.put hw2.len ht0n (key false v0 eb (by simp))⟩
        | true =>
          have hv1:b7 (br ks2 (.inl t)) (putAt ks2 ds2 (.inl t) (.int v0)) (.inl t) = some (.int v0):=by rw [db hw2.len,if_pos rfl]
          have hf3:=hw3.few
          refine ⟨.inl t,.int v0,rfl,hv1,?_⟩
          refine ⟨rfl,rfl,.inl t,rfl,by exact qk hti hf3,?_⟩
          have hsp3:Spr ps W ks0 ds0 (br (br ks2 (.inl t)) (.inl t)) (putAt (br ks2 (.inl t)) (putAt ks2 ds2 (.inl t) (.int v0)) (.inl t) (.int (1 - v0))):=by
            refine ⟨fun s hs=>?_,fun p hp=>?_⟩
            · obtain ⟨a,b⟩:=hsp2.sub s hs
              have hst : ¬ s = t:=fun z=>by rw [z,ht0n] at hs; cases hs
              refine ⟨eA (eA a),?_⟩
              rw [db hw3.len,if_neg (fun z=>hst (Sum.inl.inj z)),db hw2.len,if_neg (fun z=>hst (Sum.inl.inj z))]
              exact b
            · obtain ⟨c0,hc⟩:=hsp2.nw p hp
              refine ⟨c0,fun s hs hs0=>?_⟩
              rw [kj hw3.len]
              by_cases e:s = t
              · rw [if_pos e,e]
                exact key true (1 - v0) eb (by rcases hv01 with z | z <;> rw [z] <;> decide) p hp c0 hc
              · rw [if_neg e,kj hw2.len,if_neg e]
                refine hc s ?_ hs0
                rcases dA.mp hs with z | z
                · exact absurd (Sum.inl.inj z) e
                · rcases dA.mp z with z | z
                  · exact absurd (Sum.inl.inj z) e
                  · exact z
          refine ⟨_,_,rfl,hw3.put (t:=t) (v:=1 - v0) (by exact zo1 hmt) hmt.2 (by exact zo67 hv01),fun k h=>eA (eA (hs2 k h)),?_,hsp3⟩
          have:=nQ (ks:=br ks2 (.inl t)) (k:=.inl t); exact zo154 hlt this
      rintro ρ ⟨ks3,ds3,rfl,hw4,hs3,hl4,hsp4⟩
      exact ⟨_,_,_,_,rfl,hw4,hs3,by exact u9 hl4,fun h=>by (first|lia|omega),fun _=>⟨hl4,rfl⟩,hsp4⟩
  · rintro ρ ⟨ks,ds,v4,v5,v6,v7,v8,rfl,hw,hcl,hj⟩
    rw [bM,aK] at hj
    refine ⟨⟨by decide,by decide,by rw [aK]; exact uP hti,by rw [aK]; exact ue hti⟩,?_⟩
    refine ⟨by rw [bM,aK]; exact zo238 hti,?_⟩
    refine cA (wdG ks ds) ?_ ?_
    · intro d hd k hk
      obtain ⟨j,hj2⟩:=List.getElem?_of_mem hd
      obtain ⟨hj3,rfl⟩:=cE hj2
      rw [aK] at hj3
      have hh:=hj j (by exact zo391 hj3)
      rw [show ((j + 1:Nat):Int) = 1 + (j:Int) by exact sh] at hh
      obtain ⟨v1,hv1,hv11⟩:=hw.get hh
      refine ⟨.inl (1 + (j:Int)),.int v1,rfl,hv1,?_⟩
      have eG:wdG ks ds (.int (1 + (j:Int))) = .str (txt (decide (v1 = 0))):=by
        show D.str (txt (vz ks ds (1 + (j:Int)))) = _
        rw [tZ hv1]
      rw [eG] at hk
      rcases hv11 with rfl | rfl
      · exact hk
      · exact hk
    have eb:(fj 1 ((((ps.map D.int).length:Nat):Int) + 1 - 1).toNat).map (wdG ks ds) = ((List.range ps.length).map fun (j:Nat)=>vz ks ds (1 + (j:Int))).map (fun b=>.str (txt b)):=by
      rw [aK,show (((ps.length:Nat):Int) + 1 - 1).toNat = ps.length by exact zo53 hti]
      unfold fj
      rw [List.map_map,List.map_map]; rfl
    rw [eb]
    refine ⟨kB _,hfin ks ds _ (by rw [List.length_map,List.length_range]) hcl fun t t0 t1=>?_⟩
    have hh:=hj (t - 1).toNat (by exact zo86 hti t0 t1)
    rw [show (((t - 1).toNat + 1:Nat):Int) = t by exact zo141 t0] at hh
    refine ⟨hh,?_⟩
    unfold wd
    rw [List.getD_eq_getElem?_getD,List.getElem?_map,List.getElem?_range (by exact zo25 t0 t1)]
    show vz ks ds (1 + (((t - 1).toNat:Nat):Int)) = _
    rw [show 1 + (((t - 1).toNat:Nat):Int) = t by exact zo50 t0]
end
end K47
namespace K47
open PySem L2
section
variable {P:Program} {w:World} {K:PySem.W.Frag} {mg:Str → Option Value} {base:Heap} {A:Adr}
def wJ:SpD:=fun ds q=>∃ ps rs as x,ds = [aL ps rs,aO as,x] ∧ Tree ps rs ∧ AsksOk ps as ∧ pln x = true ∧ (∀ ds,x = .lst ds → ds.length ≤ 1000) ∧ q (.bl (iI ps as x)) []
theorem bool_int (b:Bool):(if b = true then (1:Int) else 0) = ((if b = true then 1 else 0:Nat):Int):=by cases b <;> rfl
theorem vR (T:Txt K mg A):FnOk P w K mg base CX0 3 A.f_q13 A.d_q13 ["_law_tree_here","_law_asks","_law_thing"] (bt [false,false,false] false (wJ)):=by
  have G_q22:=rp (P:=P) (w:=w) (base:=base) T
  have G_q42:=l3 (P:=P) (w:=w) (base:=base) T
  have G_q27:=vn (P:=P) (w:=w) (base:=base) T
  have S:=vW
  refine fnD T.F_q13 S ⟨[false,false,false],[false,false,false,false,false,false,false,false,false,false],false⟩ _ ?hl rfl rfl fun cdv Ar outer s H E hr=>⟨_,(ac (bf (QW.qt (dH (bu (ba (cz rfl T.z_isinstance aX (aa 2) (bW (v:=.ty "list") rfl T.z_list cp rfl)))) (dH (aS nF dB (aA aq b3 rfl T.z_len a9 (ae (aa 2) ah)) ad (aP _)) (dc (aS gw dB (aA aq b3 rfl T.z_len a9 (ae (aa 2) ah)) ad (aP _)))))) (ag (aU cM)) aQ)
      (ac (bH PassesOwn.never rfl (bn (aa 2)) (az (i:=3) S.nd rfl (Or.inl rfl)) (ac (bf (QW.qt (dH (bu (ba (cz rfl T.z_isinstance aX (aa 3) (bW (v:=.ty "tuple") rfl T.z_tuple fP rfl)))) (dc (aS (ci hr.units) dNe (aA aq b3 rfl T.z_len a9 (ae (aa 3) ah)) ad (aP _))))) (ag (aU cM)) aQ)
      (ag (bf (QW.qt (dH (bu (ba (av (G_q27) (hr.mono (by decide)) rfl T.m_q27 T.k_q27 T.b_q27 (ao (aw ak dIx (aa 3) ad (fun _ _=>rfl)) (ao ad (ao (aA aq b3 rfl T.z_len a9 (ae (aw ak dIx (aa 0) ad (fun _ _=>rfl)) ah)) ar)))))) (dc (bu (ba (av (G_q27) (hr.mono (by decide)) rfl T.m_q27 T.k_q27 T.b_q27 (ao (aw ak dIx (aa 3) ad (fun _ _=>rfl)) (ao ad (ao (aI bR dI (aA aq b3 rfl T.z_len a9 (ae (aa 1) ah)) ad) ar))))))))) (ag (aU cM)) aQ))))
      (ac (cc (aR (i:=4) S.nd rfl (Or.inl rfl) ad))
      (ac (bH PassesOwn.never rfl (cY rfl T.z_range (ae (aA aq b3 rfl T.z_len a9 (ae (aa 2) ah)) ah)) (az (i:=5) S.nd rfl (Or.inl rfl)) (ac (eE (aw ak dIx (aa 2) (aa 5) (fun _ _=>rfl)) (bU rfl (aE (az (i:=6) S.nd rfl (Or.inl rfl)) (aE (az (i:=7) S.nd rfl (Or.inl rfl)) bC)) (aj (aj aW))))
      (ac (aR (i:=8) S.nd rfl (Or.inl rfl) (aw ak dIx (aw ak dIx (aa 2) (aI bh dI (aI bR dI (aa 5) (aA aq b3 rfl T.z_len a9 (ae (aa 2) ah))) ad) (fun _ _=>rfl)) ad (fun _ _=>rfl)))
      (ac (aR (i:=9) S.nd rfl (Or.inl rfl) (QF.qe (bj (G_q42) (hr.mono (by decide)) rfl T.m_q42 T.k_q42 T.b_q42 (ao (aw ak dIx (aa 0) ad (fun _ _=>rfl)) (ao (aw ak dIx (aw ak dIx (aa 1) (aa 7) (fun _ _=>rfl)) ad (fun _ _=>rfl)) (ao (aw ak dIx (aw ak dIx (aa 1) (aa 7) (fun _ _=>rfl)) ad (fun _ _=>rfl)) ar))))))
      (ac (cc (bf (QW.qt (dH (aS (cR hr.units) dEq (aa 6) (aa 8) (aP _)) (dH (aS fU dIn (aa 6) (aa 9) rfl) (dc (aS fU dIn (aa 8) (aa 9) rfl))))) (ag (aU cM)) aQ))
      (ag (aR (i:=4) S.nd rfl (Or.inl rfl) (aI bh dI (aa 4) (jA ja uo rfl T.z_int jT (ae (av (G_q22) (hr.mono (by decide)) rfl T.m_q22 T.k_q22 T.b_q22 (ao (aw ak dIx (aa 0) ad (fun _ _=>rfl)) (ao (aa 6) (ao (aa 8) ar)))) ah))))))))))
      (ag (aU (cS (cR hr.units) dEq (aI dh dIC (aa 4) ad) ad (aP _)))))))),fun ds q h=>?_⟩
  case hl=>intro ds q h; obtain ⟨ps,rs,as,x,rfl,_⟩:=h; rfl
  obtain ⟨ps,rs,as,x,rfl,hT,ha,hp,hlen,q0⟩:=h
  cases x with
  | lst ds =>
    have hl:=hlen ds rfl
    have e:iI ps as (.lst ds) = ((decide (3 ≤ ds.length) && decide (ds.length ≤ 61)) && (ds.all (df ps.length as.length) && du ps as (ds.map fb))):=rfl
    rw [e] at q0
    refine (bQ (c:=decide ((ds.length:Int) < 3) = true) (fun c1=>?_) (fun c1=>?_))
    · rw [decide_eq_false (show ¬ 3 ≤ ds.length by have:=of_decide_eq_true c1; exact zo342 hl this)] at q0; exact q0
    refine (bQ (c:=decide ((61:Int) < (ds.length:Int)) = true) (fun c2=>?_) (fun c2=>?_))
    · rw [decide_eq_false (show ¬ ds.length ≤ 61 by have:=of_decide_eq_true c2; exact zo356 hl this),Bool.and_false] at q0; exact q0
    have hl3 : 3 ≤ ds.length:=by simp at c1; exact zo337 hl c1
    have hl61:ds.length ≤ 61:=by simp at c2; exact zo328 hl hl3 c2
    rw [decide_eq_true hl3,decide_eq_true hl61,Bool.true_and,Bool.true_and] at q0
    rw [pln] at hp
    refine ⟨fun i ρ=>∃ v3,ρ = [some (aL ps rs),some (aO as),some (.lst ds),v3,none,none,none,none,none,none] ∧ ∀ j d,j < i → ds[j]? = some d → df ps.length as.length d = true,⟨_,rfl,fun j d h=>absurd h (Nat.not_lt_zero _)⟩,?_,?_⟩
    · rintro i d ρ hd ⟨v3,rfl,hst⟩
      have hm:=List.mem_of_getElem? hd
      have hpd:=kX hp hm
      have no:df ps.length as.length d = false → q (.bl false) []:=fun h=>by
        have:ds.all (df ps.length as.length) = false:=by rw [List.all_eq_false]; exact ⟨d,hm,by rw [h]; decide⟩
        rw [this] at q0; exact q0
      have yes:df ps.length as.length d = true → ∀ j d',j < i + 1 → ds[j]? = some d' → df ps.length as.length d' = true:=fun h j d' hj e=>by
        by_cases z:j = i
        · subst z; rw [hd] at e; cases e; exact h
        · exact hst j d' (by exact pU hj z) e
      cases d with
      | tup es =>
        refine (bQ (c:=(!decide ((es.length:Int) = 2)) = true) (fun c=>?_) (fun c=>?_))
        · exact no (by unfold df; split; (rename_i e; cases e; simp at c); rfl)
        · obtain ⟨x,y,rfl⟩:∃ x y,es = [x,y]:=by
            have hl:es.length = 2:=by simp at c; exact zo331 c
            match es,hl with
            | [a,b],_=>exact ⟨a,b,rfl⟩
          rw [pln,dS,dS] at hpd
          have el:df ps.length as.length (.tup [x,y]) = (btw 1 ps.length x && btw 0 ((as.length:Int) - 1) y):=rfl
          refine ⟨x,1,((ps.map D.int).length:Int),rfl,nV hpd.1,?_⟩
          rw [aK]
          cases hb:btw 1 ps.length x with
          | false=>exact no (by rw [el,hb]; rfl)
          | true =>
            refine ⟨y,0,((as.map cT).length:Int) - 1,rfl,nV hpd.2.1,?_⟩
            rw [b4]
            cases hb2:btw 0 ((as.length:Int) - 1) y with
            | false=>exact no (by rw [el,hb,hb2]; rfl)
            | true=>exact ⟨_,rfl,yes (by rw [el,hb,hb2]; rfl)⟩
      | _=>first | exact no rfl | (rw [pln] at hpd; cases hpd)
    rintro ρ ⟨v3,rfl,hst⟩
    have hA:ds.all (df ps.length as.length) = true:=by
      rw [List.all_eq_true]
      intro d hd
      obtain ⟨j,hj⟩:=List.getElem?_of_mem hd
      exact hst j d (List.getElem?_eq_some_iff.mp hj).1 hj
    rw [hA,Bool.true_and] at q0
    obtain ⟨ed,hlk⟩:=hZ hA
    clear hst
    generalize ds.map fb = ls at q0 ed hlk
    subst ed
    rw [List.length_map] at hl3 hl61
    refine ⟨fun ρ=>∃ v3,ρ = [some (aL ps rs),some (aO as),some (.lst (ls.map dLk)),v3,some (.int 0),none,none,none,none,none],⟨v3,rfl⟩,?_⟩
    rintro ρ ⟨v3,rfl⟩
    refine ⟨⟨by rw [List.length_map]; exact zo316 hl3 hl61,by rw [List.length_map]; exact zo347 hl3 hl61⟩,?_⟩
    refine ⟨fun i ρ=>∃ v3 v5 v6 v7 v8 v9,ρ = [some (aL ps rs),some (aO as),some (.lst (ls.map dLk)),v3,some (.int (eM ps ls i)),v5,v6,v7,v8,v9] ∧ ∀ j,j < i → eQ ps as ls j = true,⟨_,_,_,_,_,_,rfl,fun j h=>absurd h (Nat.not_lt_zero _)⟩,?_,?_⟩
    · rintro i d ρ hd ⟨v3,v5,v6,v7,v8,v9,rfl,hst⟩
      obtain ⟨hi2,rfl⟩:=cE hd
      rw [List.length_map] at hi2
      have hil:i < ls.length:=by exact zo209 hl3 hl61 hi2
      have hmod:(i + 1) % ls.length < ls.length:=Nat.mod_lt _ (by exact uM hl3 hl61)
      have l1:=hlk _ (ky hil)
      have l2:=hlk _ (ky hmod)
      have t20:=l2.t0
      have t21:=l2.t1
      have at1:atI (ls.map dLk) (0 + (i:Int)) = some (dLk (nth ls i)):=by
        rw [Int.zero_add]
        exact eZ (by rw [List.getElem?_map,ij hil]; rfl)
      have at2:atI (ls.map dLk) (0 + (i:Int) - ((ls.map dLk).length:Int) + 1) = some (dLk (nth ls ((i + 1) % ls.length))):=by
        rw [List.length_map]
        unfold atI
        rw [List.length_map]
        by_cases hj:i + 1 < ls.length
        · have:ixN ls.length (0 + (i:Int) - (ls.length:Int) + 1) = some (i + 1):=by
            unfold ixN
            rw [if_neg (by exact zo287 hj),if_pos (by exact zo293)]
            exact congrArg some (by exact zo119)
          rw [this,Nat.mod_eq_of_lt hj]
          show (ls.map dLk)[i + 1]? = _
          rw [List.getElem?_map,ij hj]; rfl
        · have e:i + 1 = ls.length:=by exact ut hil hj
          have:ixN ls.length (0 + (i:Int) - (ls.length:Int) + 1) = some 0:=by
            unfold ixN
            rw [if_pos (by exact zo232 hil hj),if_pos (by exact zo177 hl3 hl61 hil hj)]
            exact congrArg some (by exact zo118 hil hj)
          rw [this,e,Nat.mod_self]
          show (ls.map dLk)[0]? = _
          rw [List.getElem?_map,ij (by exact zo229 hl3 hl61 hil hj)]; rfl
      refine bi at1 ?_
      refine bi at2 ?_
      have hok:=ha.ok _ (lH (as:=as) (k:=(nth ls i).2.toNat) (by have:=l1.k0; have:=l1.k1; (first|lia|omega)))
      refine bi (lq l1.k0 l1.k1) ?_
      refine bi (lq l1.k0 l1.k1) ?_
      refine ⟨ps,rs,_,_,rfl,hT,hok.ends.a0,hok.ends.a1,hok.ends.b0,hok.ends.b1,?_⟩
      have ew:b5 ps (as.getD (nth ls i).2.toNat oB).one (as.getD (nth ls i).2.toNat oB).other = bp ps (jR as (nth ls i).2):=rfl
      rw [ew]
      have es:eQ ps as ls i = (!decide ((nth ls i).1 = (nth ls ((i + 1) % ls.length)).1) && ((bp ps (jR as (nth ls i).2)).contains (nth ls i).1 && (bp ps (jR as (nth ls i).2)).contains (nth ls ((i + 1) % ls.length)).1)):=rfl
      have no:eQ ps as ls i = false → q (.bl false) []:=fun h=>by rw [tO hil h] at q0; exact q0
      have ap:apT ps ls i = aF ps (nth ls i).1 (nth ls ((i + 1) % ls.length)).1:=rfl
      generalize bp ps (jR as (nth ls i).2) = wy at es
      generalize (nth ls ((i + 1) % ls.length)).1 = t' at es ap t20 t21
      refine ⟨fun ρ=>∃ v9,ρ = [some (aL ps rs),some (aO as),some (.lst (ls.map dLk)),v3,some (.int (eM ps ls i)),some (.int (0 + (i:Int))),some (.int (nth ls i).1),some (.int (nth ls i).2),some (.int t'),v9] ∧ eQ ps as ls i = true ∧ (nth ls i).1 ≠ t',?_,?_⟩
      · refine (bQ (c:=decide ((nth ls i).1 = t') = true) (fun c=>?_) (fun c=>?_))
        · exact no (by rw [es,c]; rfl)
        refine ⟨rfl,gg _,?_⟩
        have ne:(nth ls i).1 ≠ t':=fun z=>c (decide_eq_true z)
        rw [show (if true = true then !inD (.int (nth ls i).1) (wy.map D.int) else inD (.int (nth ls i).1) (wy.map D.int)) = !wy.contains (nth ls i).1 by rw [if_pos rfl,ix]]
        cases e1:wy.contains (nth ls i).1 with
        | false=>exact no (by rw [es,e1]; simp)
        | true =>
          refine ⟨rfl,gg _,?_⟩
          rw [show (if true = true then !inD (.int t') (wy.map D.int) else inD (.int t') (wy.map D.int)) = !wy.contains t' by rw [if_pos rfl,ix]]
          cases e2:wy.contains t' with
          | false=>exact no (by rw [es,e2]; simp)
          | true=>exact ⟨_,rfl,by rw [es,e1,e2,decide_eq_false ne]; rfl,ne⟩
      rintro ρ ⟨v9,rfl,hs,ne⟩
      refine ⟨ps,rs,(nth ls i).1,t',rfl,hT,l1.t0,l1.t1,t20,t21,ne,?_⟩
      rw [← ap]
      have hst':∀ j,j < i + 1 → eQ ps as ls j = true:=fun j hj=>by
        by_cases e:j = i
        · rw [e]; exact hs
        · exact hst j (by exact pU hj e)
      cases hap:apT ps ls i with
      | false =>
        show ∃ v3 v5 v6 v7 v8 v9,_ ∧ _
        rw [show ((eM ps ls (i + 1):Nat):Int) = (eM ps ls i:Int) + 0 by rw [fK,hap]; rfl]
        exact ⟨_,_,_,_,_,_,rfl,hst'⟩
      | true =>
        show ∃ v3 v5 v6 v7 v8 v9,_ ∧ _
        rw [show ((eM ps ls (i + 1):Nat):Int) = (eM ps ls i:Int) + 1 by rw [fK,hap]; rfl]
        exact ⟨_,_,_,_,_,_,rfl,hst'⟩
    · rintro ρ ⟨v3,v5,v6,v7,v8,v9,rfl,hst⟩
      rw [bM] at hst ⊢
      have en:(((ls.map dLk).length:Int)).toNat = ls.length:=by rw [List.length_map]; exact zo205 hl3 hl61
      rw [en] at hst ⊢
      rw [lI hst] at q0
      refine ⟨(show (0:Int) < 2 by decide),?_⟩
      have ed:decide (((eM ps ls ls.length:Nat):Int) % 2 = 1) = decide (eM ps ls ls.length % 2 = 1):=by rw [decide_eq_decide]; (first|lia|omega)
      rw [← ed] at q0
      exact q0
  | _=>first | exact q0 | (rw [pln] at hp; cases hp)
theorem tU (ls:List (Int × Int)):(ls.map dLk).length = ls.length:=List.length_map ..
structure LksOk (n m:Nat) (k:Nat) (ls:List (Int × Int)):Prop where
  len:ls.length ≤ k
  ok:∀ l ∈ ls,LkOk n m l
theorem LksOk.nil {n m k:Nat}:LksOk n m k []:=⟨Nat.zero_le _,fun l h=>by cases h⟩
theorem LksOk.more {n m k:Nat} {ls:List (Int × Int)} {l:Int × Int} (h:LksOk n m k ls) (hl:LkOk n m l):LksOk n m (k + 1) (ls ++ [l]) :=
  ⟨by rw [List.length_append]; exact Nat.succ_le_succ h.len,fun x hx=>(List.mem_append.mp hx).elim (h.ok x) fun e=>by rw [List.mem_singleton.mp e]; exact hl⟩
theorem LksOk.up {n m k k':Nat} {ls:List (Int × Int)} (h:LksOk n m k ls) (hk:k ≤ k'):LksOk n m k' ls:=⟨Nat.le_trans h.len hk,h.ok⟩
theorem oF (ls:List (Int × Int)) (l:Int × Int):ls.map dLk ++ [dLk l] = (ls ++ [l]).map dLk:=by rw [List.map_append]; rfl
def uE (ps:List Int):D → D
  | .tup [.int a,.int b]=>ai (b5 ps a b)
  | d=>d
def dPr (l:Int × Int):D:=.tup [.int l.1,.int l.2]
theorem pz (ps:List Int) (ls:List (Int × Int)):(ls.map dPr).map (uE ps) = (ls.map fun l=>b5 ps l.1 l.2).map ai:=by rw [List.map_map,List.map_map]; rfl
theorem kW {W:List (List Int)} {j:Nat} (h:j < W.length):atI (W.map ai) ((j:Nat):Int) = some (ai (W.getD j [])):=eZ (by rw [List.getElem?_map,List.getD_eq_getElem?_getD,List.getElem?_eq_getElem h]; rfl)
theorem qG {W:List (List Int)} (h : 0 < W.length):atI (W.map ai) (-1) = some (ai (W.getD (W.length - 1) [])):=by
  unfold atI
  have:ixN (W.map ai).length (-1) = some (W.length - 1):=by
    rw [List.length_map]
    unfold ixN
    rw [if_neg (by exact zo384),if_pos (by exact zo368 h)]
    exact congrArg some (by exact zo46 h)
  rw [this]
  show (W.map ai)[W.length - 1]? = _
  rw [List.getElem?_map,List.getD_eq_getElem?_getD,List.getElem?_eq_getElem (by exact zo303 h)]; rfl
theorem qR {W:List (List Int)} {j:Nat} (h:j < W.length):W.getD j [] ∈ W:=by rw [List.getD_eq_getElem?_getD,List.getElem?_eq_getElem h]; exact List.getElem_mem _
def tm:SpD:=fun ds q=>∃ c m ps rs,ds = [aL ps rs,ai [c,m]] ∧ 0 ≤ c ∧ Tree ps rs ∧ ∀ as ls c' m',(∀ a ∈ as,AskOk ps a) → as.length ≤ 3 → LksOk ps.length as.length 3 ls → 0 ≤ c' → q (.tup [aO as,a_ ls]) [some (ai [c',m'])]
theorem wq (T:Txt K mg A):FnOk P w K mg base CX0 2 A.f_q14 A.d_q14 ["_law_tree_here","_law_source_here"] (bt [false,true] true (tm)):=by
  have G_q36:=kH (P:=P) (w:=w) (base:=base) T
  have G_q42:=l3 (P:=P) (w:=w) (base:=base) T
  have S:=xw
  refine fnD T.F_q14 S ⟨[false,true],[false,true,false,false,false,false,true,false,false,true,false,false],true⟩ _ ?hl rfl rfl fun cdv Ar outer s H E hr=>⟨_,(ac (aR (i:=2) S.nd rfl (Or.inr rfl) (aA aq b3 rfl T.z_len a9 (ae (aw ak dIx (aa 0) ad (fun _ _=>rfl)) ah)))
      (ac (kP (i:=3) ["_law_k"] [1,2] 1 1 ⟨rfl,rfl,by decide +kernel,rfl,rfl,(by first | exact trivial | exact ⟨rfl,trivial⟩ | exact ⟨rfl,rfl,trivial⟩ | exact ⟨rfl,rfl,rfl,trivial⟩ | exact ⟨rfl,rfl,rfl,rfl,trivial⟩),rfl⟩ rfl S.nd rfl (Or.inl rfl) (cY rfl T.z_range (ae ad ah)) (lh 0) (fun _ _ _ _=>⟨(bc (i:=0) (show List.Nodup (["_law_k","_law_source_here","_law_many"]:List Str) by decide +kernel) rfl (Or.inl rfl)),cB,(av (G_q36) (hr.mono (by decide)) rfl T.m_q36 T.k_q36 T.b_q36 (dO 1 (ao (aI bh dI (aa 2) ad) ar)))⟩))
      (ac (cc (bf (aS nF dB (oX rfl (aa 3) rfl T.z_len rfl T.z_set) ad (aP _)) (ag (bE (dD (a8 (QF.qm (b6 ah)) (a8 (QF.qm (b6 ah)) cC))))) aQ))
      (ac (aR (i:=4) S.nd rfl (Or.inl rfl) (cx (ae (b8 (ae (aw ak dIx (aa 3) ad (fun _ _=>rfl)) (ae (aw ak dIx (aa 3) ad (fun _ _=>rfl)) ah))) (ae (b8 (ae (aw ak dIx (aa 3) ad (fun _ _=>rfl)) (ae (aw ak dIx (aa 3) ad (fun _ _=>rfl)) ah))) (ae (b8 (ae (aw ak dIx (aa 3) ad (fun _ _=>rfl)) (ae (aw ak dIx (aa 3) ad (fun _ _=>rfl)) ah))) ah)))))
      (ac (aR (i:=5) S.nd rfl (Or.inr rfl) (d8 ["_law_one","_law_other"] [0] ⟨rfl,rfl,by decide +kernel,rfl,rfl,(by first | exact trivial | exact ⟨rfl,trivial⟩ | exact ⟨rfl,rfl,trivial⟩ | exact ⟨rfl,rfl,rfl,trivial⟩ | exact ⟨rfl,rfl,rfl,rfl,trivial⟩),rfl⟩ rfl (bn (aa 4)) (mT (dR (bD 0) (dR (bD 1) jS)) (aj (aj aW))) (fun _ _ _ _=>⟨(ic rfl (ck (bc (i:=0) (show List.Nodup (["_law_one","_law_other","_law_tree_here"]:List Str) by decide +kernel) rfl (Or.inl rfl)) (ck (bc (i:=1) (show List.Nodup (["_law_one","_law_other","_law_tree_here"]:List Str) by decide +kernel) rfl (Or.inl rfl)) fY))),cB,(QF.qe (bj (G_q42) (hr.mono (by decide)) rfl T.m_q42 T.k_q42 T.b_q42 (ao (aw ak dIx (aa 2) ad (fun _ _=>rfl)) (ao (aa 0) (ao (aa 1) ar)))))⟩)))
      (ac (bv (i:=6) S.nd rfl (Or.inl rfl) (b6 ah))
      (ac (bH PassesOwn.never rfl (cY rfl T.z_range (ae ad ah)) (az (i:=7) S.nd rfl (Or.inr rfl)) (ac (fi (i:=8) ["_law_tie"] [5,7] ⟨rfl,rfl,by decide +kernel,rfl,rfl,(by first | exact trivial | exact ⟨rfl,trivial⟩ | exact ⟨rfl,rfl,trivial⟩ | exact ⟨rfl,rfl,rfl,trivial⟩ | exact ⟨rfl,rfl,rfl,rfl,trivial⟩),rfl⟩ rfl S.nd rfl (Or.inl rfl) (bn (aw ak dIx (aa 5) (aa 7) (fun _ _=>rfl))) (bD 0) (fun _ _ _ _=>⟨(bc (i:=0) (show List.Nodup (["_law_tie","_law_ways","_law_k"]:List Str) by decide +kernel) rfl (Or.inl rfl)),(e7 (aS jg dIn (aa 0) (aw ak dIx (aa 1) (aI bR dI (aa 2) ad) (fun _ _=>rfl)) rfl)),(aa 0)⟩))
      (ac (cc (bf (aS (cR hr.units) dEq (aa 8) (cx ah) (aP _)) (ag (bE (dD (a8 (QF.qm (b6 ah)) (a8 (QF.qm (b6 ah)) cC))))) aQ))
      (ag (bP (i:=6) rfl (QE.qf (b8 (ae (aw ak dIx (aa 8) (av (G_q36) (hr.mono (by decide)) rfl T.m_q36 T.k_q36 T.b_q36 (dO 1 (ao (aA aq b3 rfl T.z_len a9 (ae (aa 8) ah)) ar))) (fun _ _=>rfl)) (ae (aa 7) ah)))))))))
      (ac (bv (i:=9) S.nd rfl (Or.inl rfl) (b6 ah))
      (ac (bH PassesOwn.never rfl (bn (aa 4)) (bU rfl (aE (az (i:=10) S.nd rfl (Or.inl rfl)) (aE (az (i:=11) S.nd rfl (Or.inl rfl)) bC)) (aj (aj aW))) (ag (bP (i:=9) rfl (QE.qf (b8 (ae (aa 10) (ae (aa 11) (ae (aI bh dI ad (av (G_q36) (hr.mono (by decide)) rfl T.m_q36 T.k_q36 T.b_q36 (dO 1 (ao ad ar)))) (ae (aI bh dI ad (av (G_q36) (hr.mono (by decide)) rfl T.m_q36 T.k_q36 T.b_q36 (dO 1 (ao ad ar)))) ah)))))))))
      (ag (bE (dD (a8 (cb 9) (a8 (cb 6) cC)))))))))))))),fun ds q h=>?_⟩
  case hl=>intro ds q h; obtain ⟨c,m,ps,rs,rfl,_⟩:=h; rfl
  obtain ⟨c,m,ps,rs,rfl,h0,hT,q0⟩:=h
  have hlo:=hT.lo; have hti:=hT.hi
  refine ⟨⟨by decide,by decide⟩,?_⟩
  refine ⟨by decide,?_⟩
  refine ⟨fun i es d=>∃ (ns:List Int) (c m:Int),es = ns.map D.int ∧ d = ai [c,m] ∧ 0 ≤ c ∧ ns.length = i ∧ ∀ x ∈ ns,0 ≤ x ∧ x ≤ (ps.length:Int),⟨[],c,m,rfl,rfl,h0,rfl,fun x h=>by cases h⟩,?_,?_⟩
  · rintro j x es d hx ⟨ns,c5,m5,rfl,rfl,h5,le,hns⟩
    refine ⟨c5,m5,(ps.length:Int) + 1,by rw [aK],h5,by exact zo330 hlo hti,cJ (n:=24) (by (first|lia|omega)) (by decide +kernel),fun r c6 m6 r0 r1 h6=>?_⟩
    refine ⟨ns ++ [r],c6,m6,(List.map_append (l₂:=[r])).symm,rfl,h6,by rw [List.length_append,le]; rfl,fun y hy=>?_⟩
    rcases List.mem_append.mp hy with hy | hy
    · exact hns y hy
    · rw [List.mem_singleton.mp hy]; exact zo246 r0 r1
  rintro es d ⟨ns,c5,m5,rfl,rfl,h5,le,hns⟩
  refine ⟨bV _,?_⟩
  rw [bM] at le
  obtain ⟨a,b,e,rfl⟩:∃ a b e,ns = [a,b,e]:=by
    match ns,le with
    | [a,b,e],_=>exact ⟨a,b,e,rfl⟩
  have ha:=hns a (.head _)
  have hb:=hns b (.tail _ (.head _))
  have he:=hns e (.tail _ (.tail _ (.head _)))
  refine ⟨fun ρ=>ρ = [some (aL ps rs),some (ai [c5,m5]),some (.int (ps.length:Int)),some (ai [a,b,e]),none,none,none,none,none,none,none,none] ∧ a ≠ b ∧ b ≠ e ∧ e ≠ a,?_,?_⟩
  · refine ⟨[a,b,e],rfl,by show 3 ≤ 1000; decide,?_⟩
    refine (bQ (c:=decide (((kr [a,b,e]).length:Int) < 3) = true) (fun _=>?_) (fun c=>?_))
    · exact ⟨rfl,rfl,q0 [] [] c5 m5 (fun a h=>by cases h) (by decide) .nil h5⟩
    · refine ⟨by rw [aK]; rfl,?_⟩
      have hc : 3 ≤ (kr [a,b,e]).length:=by simp at c; exact zo294 c
      refine ⟨fun z=>?_,fun z=>?_,fun z=>?_⟩
      · have:=pB (x:=a) (y:=b) (z:=e) (.inl z); exact qc hc this
      · have:=pB (x:=a) (y:=b) (z:=e) (.inr (.inl z)); exact qc hc this
      · have:=pB (x:=a) (y:=b) (z:=e) (.inr (.inr z)); exact qc hc this
  rintro ρ ⟨rfl,ab,be,ea⟩
  have hE:∀ l ∈ [(a,b),(b,e),(e,a)],Ends2 ps l.1 l.2:=by
    intro l hl
    simp only [List.mem_cons,List.not_mem_nil,or_false] at hl
    rcases hl with rfl | rfl | rfl
    · exact ⟨ha.1,ha.2,hb.1,hb.2,ab⟩
    · exact ⟨hb.1,hb.2,he.1,he.2,be⟩
    · exact ⟨he.1,he.2,ha.1,ha.2,ea⟩
  have hPl : [(a,b),(b,e),(e,a)].length = 3:=rfl
  have ePr : [D.tup [.int a,.int b],.tup [.int b,.int e],.tup [.int e,.int a]] = [(a,b),(b,e),(e,a)].map dPr:=rfl
  refine ⟨by show 3 ≤ 1000; decide,?_⟩
  rw [ePr]
  generalize [(a,b),(b,e),(e,a)] = prs at hE hPl
  refine cA (uE ps) ?_ ?_
  · intro d hd k hk
    obtain ⟨l,hl,rfl⟩:=List.mem_map.mp hd
    have h2:=hE l hl
    exact ⟨ps,rs,l.1,l.2,rfl,hT,h2.a0,h2.a1,h2.b0,h2.b1,hk⟩
  rw [pz]
  have hW:∀ v ∈ (prs.map fun l=>b5 ps l.1 l.2),v.length ≤ 46 ∧ ∀ t ∈ v,0 < t ∧ t ≤ (ps.length:Int):=fun v hv=>by
    obtain ⟨l,hl,rfl⟩:=List.mem_map.mp hv
    exact ⟨jf hT (hE l hl),fun t ht=>cD hT (hE l hl) ht⟩
  have hWl:(prs.map fun l=>b5 ps l.1 l.2).length = 3:=by rw [List.length_map]; exact hPl
  generalize (prs.map fun l=>b5 ps l.1 l.2) = W at hW hWl
  refine ⟨rfl,?_⟩
  refine ⟨⟨by decide,by decide⟩,?_⟩
  refine ⟨fun i ρ=>∃ ls c m v7 v8,ρ = [some (aL ps rs),some (ai [c,m]),some (.int (ps.length:Int)),some (ai [a,b,e]),some (.lst (prs.map dPr)),some (.lst (W.map ai)),some (a_ ls),v7,v8,none,none,none] ∧ 0 ≤ c ∧ LksOk ps.length 3 i ls,⟨[],c5,m5,_,_,rfl,h5,.nil⟩,?_,?_⟩
  · rintro i d ρ hd ⟨ls,c7,m7,v7,v8,rfl,h7,hL⟩
    obtain ⟨hi2,rfl⟩:=cE hd
    have hi3:i < 3:=hi2
    have hll:=hL.len
    have at1:atI (W.map ai) (0 + (i:Int)) = some (ai (W.getD i [])):=by rw [Int.zero_add]; exact kW (by exact zo61 hWl hi3)
    obtain ⟨p,at2⟩:∃ p,atI (W.map ai) (0 + (i:Int) - 1) = some (ai p):=by
      by_cases hz:i = 0
      · subst hz; exact ⟨_,qG (by exact zo301 hWl)⟩
      · have:=kW (W:=W) (j:=i - 1) (by exact zo74 hWl hi3)
        rw [show ((i - 1:Nat):Int) = 0 + (i:Int) - 1 by exact zo31 hi3 hz] at this
        exact ⟨_,this⟩
    have hv:=hW _ (qR (W:=W) (j:=i) (by exact zo61 hWl hi3))
    generalize W.getD i [] = v at at1 hv
    refine bi at1 ?_
    refine ⟨by rw [aK]; (first|lia|omega),?_⟩
    refine dU (filD fun x=>p.contains x) ?_ ?_
    · intro d hd k hk
      obtain ⟨x,hx,rfl⟩:=dP hd
      refine bi at2 ?_
      refine ⟨rfl,gg p,?_⟩
      change k (if p.contains x = true then some (.int x) else none) at hk
      show if inD (.int x) (p.map D.int) = true then k (some (.int x)) else k none
      rw [ix]
      cases e:p.contains x with
      | true=>rw [e] at hk; exact hk
      | false=>rw [e] at hk; exact hk
    rw [jb]
    have hf:∀ t ∈ v.filter (fun x=>p.contains x),0 < t ∧ t ≤ (ps.length:Int):=fun t ht=>hv.2 t (List.mem_filter.mp ht).1
    have hfl:(v.filter fun x=>p.contains x).length ≤ 46:=Nat.le_trans (List.length_filter_le _ _) hv.1
    generalize (v.filter fun x=>p.contains x) = bo at hf hfl
    refine ⟨fun ρ=>ρ = [some (aL ps rs),some (ai [c7,m7]),some (.int (ps.length:Int)),some (ai [a,b,e]),some (.lst (prs.map dPr)),some (.lst (W.map ai)),some (a_ ls),some (.int (0 + (i:Int))),some (ai bo),none,none,none] ∧ bo ≠ [],?_,?_⟩
    · refine ⟨fM _,fM [],?_⟩
      refine (bQ (c:=eqD (ai bo) (ai []) = true) (fun _=>?_) (fun c=>?_))
      · exact ⟨rfl,rfl,q0 [] [] c7 m7 (fun a h=>by cases h) (by decide) .nil h7⟩
      · exact ⟨rfl,fun z=>c (by rw [z,eqDi]; exact decide_eq_true rfl)⟩
    rintro ρ ⟨rfl,hne⟩
    have hb0 : 0 < bo.length:=List.length_pos_iff.mpr hne
    refine ⟨c7,m7,(bo.length:Int),by rw [aK],h7,by exact zo169 hfl hb0,cJ (n:=46) (by (first|lia|omega)) (by decide +kernel),fun r c8 m8 r0 r1 h8=>?_⟩
    have hbm:=hf _ (L2.gY (show r.toNat < bo.length by exact zo7 r0 r1))
    refine bi (bT r0 (by exact rc r1)) ?_
    generalize bo.getD r.toNat 0 = t at hbm
    refine ⟨rfl,by rw [tU]; exact zo135 hi3 hll,?_⟩
    refine ⟨ls ++ [(t,0 + (i:Int))],c8,m8,some (.int (0 + (i:Int))),some (ai bo),?_,h8,hL.more ⟨by show 1 ≤ t; exact zo1 hbm,hbm.2,by show 0 ≤ 0 + (i:Int); exact zo201 hi3,by show 0 + (i:Int) < (3:Nat); exact zo216 hi3⟩⟩
    unfold a_
    rw [← oF]; rfl
  · rintro ρ ⟨ls,c7,m7,v7,v8,rfl,h7,hL⟩
    rw [bM] at hL
    refine ⟨rfl,?_⟩
    refine ⟨fun i ρ=>∃ as c m v10 v11,ρ = [some (aL ps rs),some (ai [c,m]),some (.int (ps.length:Int)),some (ai [a,b,e]),some (.lst (prs.map dPr)),some (.lst (W.map ai)),some (a_ ls),v7,v8,some (aO as),v10,v11] ∧ 0 ≤ c ∧ as.length = i ∧ ∀ x ∈ as,AskOk ps x,⟨[],c7,m7,_,_,rfl,h7,rfl,fun x h=>by cases h⟩,?_,?_⟩
    · rintro i d ρ hd ⟨as,c8,m8,v10,v11,rfl,h8,la,has⟩
      obtain ⟨l,hl,rfl⟩:∃ l,prs[i]? = some l ∧ dPr l = d:=by rw [List.getElem?_map,Option.map_eq_some_iff] at hd; exact hd
      have hil:i < prs.length:=(List.getElem?_eq_some_iff.mp hl).1
      have h2:=hE l (List.mem_of_getElem? hl)
      refine ⟨c8,m8,3,rfl,h8,by decide,cJ (n:=3) (by decide) (by decide +kernel),fun r c9 m9 r0 r1 h9=>?_⟩
      refine ⟨c9,m9,9,rfl,h9,by decide,cJ (n:=9) (by decide) (by decide +kernel),fun r2 c10 m10 r20 r21 h10=>?_⟩
      refine ⟨rfl,by rw [b4]; exact zo107 hPl la hil,?_⟩
      refine ⟨as ++ [⟨l.1,l.2,1 + r,1 + r2⟩],c10,m10,_,_,by rw [← iS]; rfl,h10,by rw [List.length_append,la]; rfl,fun x hx=>?_⟩
      rcases List.mem_append.mp hx with hx | hx
      · exact has x hx
      · rw [List.mem_singleton.mp hx]; exact ⟨h2,by show 1 ≤ 1 + r; exact zo158 r0 r1,by show 1 + r ≤ 1000000; exact zo188 r0 r1,by show 1 ≤ 1 + r2; exact zo145 r20 r21,by show 1 + r2 ≤ 1000000000000; exact zo170 r20 r21⟩
    · rintro ρ ⟨as,c8,m8,v10,v11,rfl,h8,la,has⟩
      rw [List.length_map,hPl] at la
      exact q0 as ls c8 m8 has (by exact zo279 la) (by rw [la]; exact hL) h8
end
end K47
namespace K47
open PySem L2
section
variable {P:Program} {w:World} {K:PySem.W.Frag} {mg:Str → Option Value} {base:Heap} {A:Adr}
theorem ug {ps:List Int} {as:List Ask} {bs:List Bool} (h:bs.length = ps.length):mG ps as (dTx bs) = as.all fun a=>de ps a.one a.other bs:=by
  show (decide ((bs.map fun b=>D.str (txt b)).length = ps.length) && ((bs.map fun b=>D.str (txt b)).all txB && as.all fun a=>de ps a.one a.other ((bs.map fun b=>D.str (txt b)).map j5))) = _
  rw [List.length_map,decide_eq_true h,Bool.true_and]
  have e1:(bs.map fun b=>D.str (txt b)).all txB = true:=by
    rw [List.all_map]; exact List.all_eq_true.mpr fun b _=>by cases b <;> rfl
  have e2:(bs.map fun b=>D.str (txt b)).map j5 = bs:=by
    rw [List.map_map]
    have:(j5 ∘ fun b=>D.str (txt b)) = id:=by funext b; cases b <;> rfl
    rw [this,List.map_id]
  rw [e1,e2,Bool.true_and]
theorem m_ {ps:List Int} {as:List Ask} {R:List (Int × Int)} (h:iI ps as (a_ R) = true) : 3 ≤ R.length ∧ R.length ≤ 61 ∧ (∀ l ∈ R,LkOk ps.length as.length l) ∧ du ps as R = true:=by
  have e:iI ps as (a_ R) = ((decide (3 ≤ (R.map dLk).length) && decide ((R.map dLk).length ≤ 61)) && ((R.map dLk).all (df ps.length as.length) && du ps as ((R.map dLk).map fb))):=rfl
  rw [e,l6,List.length_map,Bool.and_eq_true,Bool.and_eq_true,Bool.and_eq_true,decide_eq_true_iff,decide_eq_true_iff] at h
  obtain ⟨⟨h3,h61⟩,ha,hr⟩:=h
  have:=(hZ ha).2
  rw [l6] at this
  exact ⟨h3,h61,this,hr⟩
def tV:SpD:=fun ds q=>∃ ps rs as,ds = [aL ps rs,aO as] ∧ Tree ps rs ∧ AsksOk ps as ∧ q (.bl true) []
theorem rW:∀ bs:List Bool,pln (dTx bs) = true:=fun bs=>by
  unfold dTx
  rw [pln]
  exact kA fun d hd=>by obtain ⟨b,_,rfl⟩:=List.mem_map.mp hd; rfl
theorem qh (bs:List Bool):∀ d ∈ bs.map (fun b=>D.str (txt b)),okT d:=fun d hd=>by
  obtain ⟨b,_,rfl⟩:=List.mem_map.mp hd
  exact .inl (d_ b)
theorem sI (R:List (Int × Int)):pln (a_ R) = true:=by
  unfold a_
  rw [pln]
  exact kA fun d hd=>by obtain ⟨b,_,rfl⟩:=List.mem_map.mp hd; rfl
theorem xx (T:Txt K mg A):FnOk P w K mg base CX0 10 A.f_q25 A.d_q25 ["_law_tree_here","_law_asks"] (bt [false,false] false (tV)):=by
  have G_q1:=ok_q1 (P:=P) (w:=w) (base:=base) T
  have G_q13:=vR (P:=P) (w:=w) (base:=base) T
  have G_q21:=vY (P:=P) (w:=w) (base:=base) T
  have G_q29:=wN (P:=P) (w:=w) (base:=base) T
  have S:=xE
  refine fnD T.F_q25 S ⟨[false,false],[false,false,true,false,false,true],false⟩ _ ?hl rfl rfl fun cdv Ar outer s H E hr=>⟨_,(ac (tI (i:=2) S.nd rfl (Or.inl rfl) (dD (a8 (QF.qm (gf cr lj rfl T.z_list cp (ae (aw ak dIx (aa 0) ad (fun _ _=>rfl)) ah))) (a8 (QF.qm (gf cr lj rfl T.z_list cp (ae (aw ak dIx (aa 0) ad (fun _ _=>rfl)) ah))) (a8 (QF.qm (gf cr lj rfl T.z_list cp (ae (aa 1) ah))) cC)))))
      (ac (aR (i:=3) S.nd rfl (Or.inl rfl) (av (G_q1) (hr.mono (by decide)) rfl T.m_q1 T.k_q1 T.b_q1 (ao (aa 0) (ao (aa 1) (ao (QF.qe (bj (G_q21) (hr.mono (by decide)) rfl T.m_q21 T.k_q21 T.b_q21 (ao (aa 0) (ao (aa 1) ar)))) ar)))))
      (ac (bH PassesOwn.never rfl (cY rfl T.z_range (ae ad ah)) (az (i:=4) S.nd rfl (Or.inl rfl)) (ac (bv (i:=5) S.nd rfl (Or.inl rfl) (bj (G_q29) (hr.mono (by decide)) rfl T.m_q29 T.k_q29 T.b_q29 (ao (aa 0) (ao (aa 1) ar))))
      (ac (cc (bf (QT.bor [5] (QW.qt (dH (bu (ba (cz rfl T.z_isinstance aX (aa 5) (bW (v:=.ty "tuple") rfl T.z_tuple fP rfl)))) (dc (aS (ci hr.units) dNe (aA aq b3 rfl T.z_len a9 (ae (aa 5) ah)) ad (aP _)))))) (ag (aU cM)) aQ))
      (ac (cc (bf (QT.bor [5] (aS (ci hr.units) dNe (aw ak dIx (aa 5) ad (fun _ _=>rfl)) (aw ak dIx (cx (ae cP (ae cP ah))) (jA ja uo rfl T.z_int jT (ae (aa 3) ah)) (fun _ _=>rfl)) (aP _))) (ag (aU cM)) aQ))
      (ac (cc (bf (QT.bor [5] (QW.qt (gb (ba (aa 3)) (fL (bu (ba (av (G_q1) (hr.mono (by decide)) rfl T.m_q1 T.k_q1 T.b_q1 (ao (aa 0) (ao (aa 1) (ao (aw ak dIx (aa 5) ad (fun _ _=>rfl)) ar)))))))))) (ag (aU cM)) aQ))
      (ac (cc (bf (QT.bor [5] (QW.qt (gb (bu (ba (aa 3))) (fL (bu (ba (av (G_q13) (hr.mono (by decide)) rfl T.m_q13 T.k_q13 T.b_q13 (ao (aa 0) (ao (aa 1) (ao (aw ak dIx (aa 5) ad (fun _ _=>rfl)) ar)))))))))) (ag (aU cM)) aQ))
      (ag (tj (i:=5) (rg mY l4)))))))))
      (ag (aU (QE.bor [2] (cS (cR hr.units) dEq (b8 (ae (g7 cr lj rfl T.z_list cp (ae (aw ak dIx (aa 0) ad (fun _ _=>rfl)) ah)) (ae (g7 cr lj rfl T.z_list cp (ae (aw ak dIx (aa 0) ad (fun _ _=>rfl)) ah)) (ae (aa 1) ah)))) (aa 2) (aP _)))))))),fun ds q h=>?_⟩
  case hl=>intro ds q h; obtain ⟨ps,rs,as,rfl,_⟩:=h; rfl
  obtain ⟨ps,rs,as,rfl,hT,ha,q0⟩:=h
  have hti:=hT.hi
  have hal:=ha.len
  refine ⟨bV _,?_⟩
  refine ⟨bV _,?_⟩
  refine ⟨oN _,?_⟩
  refine ⟨ps,rs,as,rfl,hT,ha,fun bs hb hbp=>?_⟩
  refine ⟨ps,rs,as,dTx bs,rfl,hT,ha,rW bs,fun ds e=>?_,?_⟩
  · cases e; exact ⟨by rw [List.length_map]; exact zo329 hti hb,qh bs⟩
  rw [ug hb]
  have okk:lay 3 (.tup [ai ps,ai rs,aO as]) = true:=by
    show ([ai ps,ai rs,aO as].all (lay 2)) = true
    rw [List.all_cons,List.all_cons,List.all_cons,iK 1,iK 1,oH 0]; rfl
  refine ⟨⟨by decide,by decide⟩,?_⟩
  generalize hcan:(as.all fun a=>de ps a.one a.other bs) = can
  refine ⟨fun i ρ=>∃ v4 v5,ρ = [some (aL ps rs),some (aO as),some (.tup [ai ps,ai rs,aO as]),some (.bl can),v4,v5],⟨_,_,rfl⟩,?_,?_⟩
  · rintro i d ρ hd ⟨v4,v5,rfl⟩
    refine ⟨ps,rs,as,rfl,hT,ha,fun bs' hb' hr'=>?_,fun R hR=>?_⟩
    · have hc:can = true:=by rw [← hcan]; exact List.all_eq_true.mpr (hbp bs' hr')
      subst hc
      refine ⟨fun ρ=>ρ = [some (aL ps rs),some (aO as),some (.tup [ai ps,ai rs,aO as]),some (.bl true),some d,some (.tup [.str "pointed",dTx bs'])],rfl,?_⟩
      rintro ρ rfl
      refine ⟨fun ρ=>ρ = [some (aL ps rs),some (aO as),some (.tup [ai ps,ai rs,aO as]),some (.bl true),some d,some (.tup [.str "pointed",dTx bs'])],?_,?_⟩
      · refine ⟨fT (by decide +kernel),fT (by decide +kernel),?_⟩
        refine (bQ (c:=(!eqD (.str "pointed") (.str "pointed")) = true) (fun c=>?_) (fun _=>rfl))
        rw [gI] at c; simp at c
      rintro ρ rfl
      refine ⟨fun ρ=>ρ = [some (aL ps rs),some (aO as),some (.tup [ai ps,ai rs,aO as]),some (.bl true),some d,some (.tup [.str "pointed",dTx bs'])],?_,?_⟩
      · refine ⟨ps,rs,as,dTx bs',rfl,hT,ha,rW bs',fun ds e=>?_,?_⟩
        · cases e; exact ⟨by rw [List.length_map]; exact zo272 hti hb hb',qh bs'⟩
        rw [ug hb',List.all_eq_true.mpr hr']
        exact rfl
      rintro ρ rfl
      refine ⟨fun ρ=>ρ = [some (aL ps rs),some (aO as),some (.tup [ai ps,ai rs,aO as]),some (.bl true),some d,some (.tup [.str "pointed",dTx bs'])],rfl,?_⟩
      rintro ρ rfl
      exact ⟨.tup [.str "pointed",dTx bs'],rfl,1,dTx bs',rfl,rfl,.tup [.str "pointed",dTx bs'],_,rfl,rfl,_,_,rfl⟩
    · obtain ⟨hl3,hl61,hlk,hrz⟩:=m_ hR
      have hc:can = false:=by
        rw [← hcan]
        cases e:as.all fun a=>de ps a.one a.other bs with
        | false=>rfl
        | true=>exact (rK hT ha (by exact uM hl3 hl61) hlk hrz (List.all_eq_true.mp e)).elim
      subst hc
      refine ⟨fun ρ=>ρ = [some (aL ps rs),some (aO as),some (.tup [ai ps,ai rs,aO as]),some (.bl false),some d,some (.tup [.str "ring",a_ R])],rfl,?_⟩
      rintro ρ rfl
      refine ⟨fun ρ=>ρ = [some (aL ps rs),some (aO as),some (.tup [ai ps,ai rs,aO as]),some (.bl false),some d,some (.tup [.str "ring",a_ R])],?_,?_⟩
      · refine ⟨fT (by decide +kernel),fT (by decide +kernel),?_⟩
        refine (bQ (c:=(!eqD (.str "ring") (.str "ring")) = true) (fun c=>?_) (fun _=>rfl))
        rw [gI] at c; simp at c
      rintro ρ rfl
      refine ⟨fun ρ=>ρ = [some (aL ps rs),some (aO as),some (.tup [ai ps,ai rs,aO as]),some (.bl false),some d,some (.tup [.str "ring",a_ R])],rfl,?_⟩
      rintro ρ rfl
      refine ⟨fun ρ=>ρ = [some (aL ps rs),some (aO as),some (.tup [ai ps,ai rs,aO as]),some (.bl false),some d,some (.tup [.str "ring",a_ R])],?_,?_⟩
      · refine ⟨ps,rs,as,a_ R,rfl,hT,ha,sI R,fun ds e=>?_,?_⟩
        · cases e; rw [List.length_map]; exact zo327 hl3 hl61
        rw [hR]
        exact rfl
      rintro ρ rfl
      exact ⟨.tup [.str "ring",a_ R],rfl,1,a_ R,rfl,rfl,.tup [.str "ring",a_ R],_,rfl,rfl,_,_,rfl⟩
  · rintro ρ ⟨v4,v5,rfl⟩
    refine ⟨ki okk (by decide),ki okk (by decide),rfl,?_⟩
    show q (.bl (eqD (.tup [ai ps,ai rs,aO as]) (.tup [ai ps,ai rs,aO as]))) []
    rw [g_ 3 _ okk]
    exact q0
theorem vA (T:Txt K mg A):FnOk P w K mg base CX0 11 A.f_law A.d_law ["_law_script"] (bt [false] false (rZ K)):=by
  have G_q35:=pD (P:=P) (w:=w) (base:=base) T
  have G_q36:=kH (P:=P) (w:=w) (base:=base) T
  have G_q14:=wq (P:=P) (w:=w) (base:=base) T
  have G_q25:=xx (P:=P) (w:=w) (base:=base) T
  have G_q20:=qx (P:=P) (w:=w) (base:=base) T
  have G_q28:=wX (P:=P) (w:=w) (base:=base) T
  have S:=vC
  refine fnD T.F_law S ⟨[false],[false,false,false,false,true,false],false⟩ _ ?hl rfl rfl fun cdv Ar outer s H E hr=>⟨_,(ac (eE (QF.qe (bj (G_q28) (hr.mono (by decide)) rfl T.m_q28 T.k_q28 T.b_q28 (ao (aa 0) (ao ad ar)))) (bU rfl (aE (az (i:=1) S.nd rfl (Or.inl rfl)) (aE (az (i:=2) S.nd rfl (Or.inl rfl)) bC)) (aj (aj aW))))
      (ac (bH PassesOwn.never rfl (eW rfl T.z_range (ae ad (ae (aA (gu rfl) dMax rfl T.z_max mJ (ae ad (ae (aA (f9 rfl) dMin rfl T.z_min mQ (ae (aA aq b3 rfl T.z_len a9 (ae (aa 0) ah)) (ae ad ah))) ah))) ah))) (az (i:=3) S.nd rfl (Or.inl rfl)) (ac (bv (i:=4) S.nd rfl (Or.inl rfl) (bj (G_q20) (hr.mono (by decide)) rfl T.m_q20 T.k_q20 T.b_q20 (ao (av (G_q35) (hr.mono (by decide)) rfl T.m_q35 T.k_q35 T.b_q35 (ao (aa 0) (ao (aa 3) ar))) (ao (aI bh dI ad (aa 3)) ar))))
      (ac (cc (aR (i:=5) S.nd rfl (Or.inl rfl) (kU (aa 2) kI (kf (av (G_q36) (hr.mono (by decide)) rfl T.m_q36 T.k_q36 T.b_q36 (dO 4 (ao (aI bh dI (aA aq b3 rfl T.z_len a9 (ae (aa 2) ah)) ad) ar)))))))
      (ac (cc (bf (aS (cR hr.units) dEq (av (G_q36) (hr.mono (by decide)) rfl T.m_q36 T.k_q36 T.b_q36 (dO 4 (ao ad ar))) ad (aP _)) (ag (aR (i:=5) S.nd rfl (Or.inl rfl) (pL kq dCat (aa 5) (aw ak dIx (QF.qe (bj (G_q14) (hr.mono (by decide)) rfl T.m_q14 T.k_q14 T.b_q14 (ao (aa 1) (dO 4 ar)))) ad (fun _ _=>rfl))))) aQ))
      (ag (bf (bu (ba (av (G_q25) (hr.mono (by decide)) rfl T.m_q25 T.k_q25 T.b_q25 (ao (aa 1) (ao (aa 5) ar))))) (ag (aU cM)) aQ))))))
      (ag (aU cM)))),fun ds q h=>?_⟩
  case hl=>intro ds q h; obtain ⟨φ,ns,rfl,_⟩:=h; rfl
  obtain ⟨φ,ns,rfl,hφ,hl,q0⟩:=h
  refine ⟨φ,ns,23,rfl,hφ,hl,by decide,by decide,fun ps rs as hT hle ha hal=>?_⟩
  refine ⟨hφ,?_⟩
  refine ⟨⟨by decide,by decide,by split <;> split <;> (first|lia|omega),by split <;> split <;> (first|lia|omega)⟩,?_⟩
  refine ⟨fun i ρ=>∃ v3 v4 v5,ρ = [some (.scr φ ns),some (aL ps rs),some (aO as),v3,v4,v5],⟨_,_,_,rfl⟩,?_,?_⟩
  rotate_left
  · rintro ρ ⟨v3,v4,v5,rfl⟩
    exact q0
  rintro i d ρ hd ⟨v3,v4,v5,rfl⟩
  obtain ⟨hi,rfl⟩:=cE hd
  have hi2:i < 40:=by revert hi; split <;> split <;> (first|lia|omega)
  refine ⟨φ,ns,1 + (i:Int),rfl,hφ,by exact zo282 hi2,?_⟩
  refine ⟨_,800 + (1 + (i:Int)),rfl,by exact zo271 hi2,by exact zo284 hi2,fun c m h0=>?_⟩
  refine ⟨fun ρ=>∃ sm c1 m1,ρ = [some (.scr φ ns),some (aL ps rs),some (aO as),some (.int (1 + (i:Int))),some (ai [c1,m1]),some (aO sm)] ∧ AsksOk ps sm ∧ sm.length ≤ 27 ∧ 0 ≤ c1,?_,?_⟩
  · refine ⟨c,m,(as.length:Int) + 1,by rw [b4],h0,by exact zo320 hal,cJ (n:=31) (by (first|lia|omega)) (by decide +kernel),fun r c1 m1 r0 r1 h1=>?_⟩
    have ea:aO (as.take r.toNat) = .lst (gr (as.map cT) none (some r)):=by rw [i8 r0,← List.map_take]; rfl
    exact ⟨as.take r.toNat,c1,m1,by rw [ea]; rfl,⟨by rw [List.length_take]; (first|lia|omega),fun a hm=>ha.ok a (List.mem_of_mem_take hm)⟩,by rw [List.length_take]; (first|lia|omega),h1⟩
  rintro ρ ⟨sm,c1,m1,rfl,hA,hsl,h1⟩
  refine ⟨fun ρ=>∃ sm c1 m1,ρ = [some (.scr φ ns),some (aL ps rs),some (aO as),some (.int (1 + (i:Int))),some (ai [c1,m1]),some (aO sm)] ∧ AsksOk ps sm,?_,?_⟩
  · refine ⟨c1,m1,3,rfl,h1,by decide,cJ (n:=3) (by decide) (by decide +kernel),fun r c2 m2 r0 r1 h2=>?_⟩
    refine (bQ (c:=decide (r = 0) = true) (fun _=>?_) (fun _=>⟨_,_,_,rfl,hA⟩))
    refine ⟨c2,m2,ps,rs,rfl,h2,hT,fun as2 ls c3 m3 hok2 hl2 _ h3=>?_⟩
    refine ⟨by rw [b4,b4]; exact zo165 hsl hl2,?_⟩
    refine ⟨sm ++ as2,c3,m3,?_,⟨by rw [List.length_append]; exact zo164 hsl hl2,fun a hm=>(List.mem_append.mp hm).elim (hA.ok a) (hok2 a)⟩⟩
    unfold aO
    rw [List.map_append]
    rfl
  rintro ρ ⟨sm,c2,m2,rfl,hA⟩
  exact ⟨ps,rs,sm,rfl,hT,hA,_,_,_,rfl⟩
end
end K47
namespace K47
open PySem L2
theorem iz {us:List Value} {n:Nat} (h:us.length = n + 1):∃ a r,us = a :: r ∧ r.length = n:=by
  cases us with
  | nil=>cases h
  | cons a r=>exact ⟨a,r,rfl,Nat.succ.inj h⟩
theorem us1 {fd:FuncData} {ps:List Str} (h:∀ a0,bindArgs fd ⟨[a0],[]⟩ = pure (ps.zip [a0])):∀ us:List Value,us.length = 1 → bindArgs fd ⟨us,[]⟩ = pure (ps.zip us):=fun us hl=>by
  obtain ⟨a0,u0,rfl,h0⟩:=iz hl
  cases List.eq_nil_of_length_eq_zero h0
  exact h a0
theorem us2 {fd:FuncData} {ps:List Str} (h:∀ a0 a1,bindArgs fd ⟨[a0,a1],[]⟩ = pure (ps.zip [a0,a1])):∀ us:List Value,us.length = 2 → bindArgs fd ⟨us,[]⟩ = pure (ps.zip us):=fun us hl=>by
  obtain ⟨a0,u0,rfl,h0⟩:=iz hl
  obtain ⟨a1,u1,rfl,h1⟩:=iz h0
  cases List.eq_nil_of_length_eq_zero h1
  exact h a0 a1
theorem us3 {fd:FuncData} {ps:List Str} (h:∀ a0 a1 a2,bindArgs fd ⟨[a0,a1,a2],[]⟩ = pure (ps.zip [a0,a1,a2])):∀ us:List Value,us.length = 3 → bindArgs fd ⟨us,[]⟩ = pure (ps.zip us):=fun us hl=>by
  obtain ⟨a0,u0,rfl,h0⟩:=iz hl
  obtain ⟨a1,u1,rfl,h1⟩:=iz h0
  obtain ⟨a2,u2,rfl,h2⟩:=iz h1
  cases List.eq_nil_of_length_eq_zero h2
  exact h a0 a1 a2
theorem us4 {fd:FuncData} {ps:List Str} (h:∀ a0 a1 a2 a3,bindArgs fd ⟨[a0,a1,a2,a3],[]⟩ = pure (ps.zip [a0,a1,a2,a3])):∀ us:List Value,us.length = 4 → bindArgs fd ⟨us,[]⟩ = pure (ps.zip us):=fun us hl=>by
  obtain ⟨a0,u0,rfl,h0⟩:=iz hl
  obtain ⟨a1,u1,rfl,h1⟩:=iz h0
  obtain ⟨a2,u2,rfl,h2⟩:=iz h1
  obtain ⟨a3,u3,rfl,h3⟩:=iz h2
  cases List.eq_nil_of_length_eq_zero h3
  exact h a0 a1 a2 a3
theorem all_mk {l:PySem.W.OpenLaw} {w:World} {K:PySem.W.Frag} {h:Heap} {mg:Str → Option Value} {fa f_q19 f_q9 f_q0 f_q4 f_q18 f_q34 f_q17 f_q33 f_q2 f_q3 f_q40 f_q7 f_q39 f_q8 f_q11 f_q23 f_q10 f_q15 f_q30 f_q5 f_q6 f_q29 f_q35 f_q20 f_q36 f_q38 f_q42 f_q41 f_q28 f_q12 f_q22 f_q26 f_q37 f_q1 f_q21 f_q27 f_q13 f_q14 f_q25 f_law:Addr} (X:K.In h) (G:h.Ns mainGlobals mg) (hfa:mg "law" = some (.ref fa))
    {od_q19 an_q19:Option Addr} {sl_q19:Array (Option Value)} {oc_q19 kV_q19 dc_q19 pm_q19 cd_q19 ct_q19:Value} (a_q19:PySem.W.nsIn K mainGlobals "is_whole" = some (some (.ref f_q19))) (l_q19:K.lookup f_q19 = some ⟨oc_q19,od_q19,.func (PySem.W.fnOf "is_whole" "is_whole" (aD iY) (aB iY) (af iY) .none kV_q19 dc_q19 pm_q19 an_q19 cd_q19 ct_q19),sl_q19⟩) (c_q19:PySem.W.codeIn K cd_q19 "is_whole" = true) (k_q19:PySem.W.keepIn K (.ref f_q19) = true)
    {od_q9 an_q9:Option Addr} {sl_q9:Array (Option Value)} {oc_q9 kV_q9 dc_q9 pm_q9 cd_q9 ct_q9:Value} (a_q9:PySem.W.nsIn K mainGlobals "is_between" = some (some (.ref f_q9))) (l_q9:K.lookup f_q9 = some ⟨oc_q9,od_q9,.func (PySem.W.fnOf "is_between" "is_between" (aD oR) (aB oR) (af oR) .none kV_q9 dc_q9 pm_q9 an_q9 cd_q9 ct_q9),sl_q9⟩) (c_q9:PySem.W.codeIn K cd_q9 "is_between" = true) (k_q9:PySem.W.keepIn K (.ref f_q9) = true)
    {od_q0 an_q0:Option Addr} {sl_q0:Array (Option Value)} {oc_q0 kV_q0 dc_q0 pm_q0 cd_q0 ct_q0:Value} (a_q0:PySem.W.nsIn K mainGlobals "has_two_lists" = some (some (.ref f_q0))) (l_q0:K.lookup f_q0 = some ⟨oc_q0,od_q0,.func (PySem.W.fnOf "has_two_lists" "has_two_lists" (aD o4) (aB o4) (af o4) .none kV_q0 dc_q0 pm_q0 an_q0 cd_q0 ct_q0),sl_q0⟩) (c_q0:PySem.W.codeIn K cd_q0 "has_two_lists" = true) (k_q0:PySem.W.keepIn K (.ref f_q0) = true)
    {od_q4 an_q4:Option Addr} {sl_q4:Array (Option Value)} {oc_q4 kV_q4 dc_q4 pm_q4 cd_q4 ct_q4:Value} (a_q4:PySem.W.nsIn K mainGlobals "look_at_tree" = some (some (.ref f_q4))) (l_q4:K.lookup f_q4 = some ⟨oc_q4,od_q4,.func (PySem.W.fnOf "look_at_tree" "look_at_tree" (aD ou) (aB ou) (af ou) .none kV_q4 dc_q4 pm_q4 an_q4 cd_q4 ct_q4),sl_q4⟩) (c_q4:PySem.W.codeIn K cd_q4 "look_at_tree" = true) (k_q4:PySem.W.keepIn K (.ref f_q4) = true)
    {od_q18 an_q18:Option Addr} {sl_q18:Array (Option Value)} {oc_q18 kV_q18 dc_q18 pm_q18 cd_q18 ct_q18:Value} (a_q18:PySem.W.nsIn K mainGlobals "is_place" = some (some (.ref f_q18))) (l_q18:K.lookup f_q18 = some ⟨oc_q18,od_q18,.func (PySem.W.fnOf "is_place" "is_place" (aD jr) (aB jr) (af jr) .none kV_q18 dc_q18 pm_q18 an_q18 cd_q18 ct_q18),sl_q18⟩) (c_q18:PySem.W.codeIn K cd_q18 "is_place" = true) (k_q18:PySem.W.keepIn K (.ref f_q18) = true)
    {od_q34 an_q34:Option Addr} {sl_q34:Array (Option Value)} {oc_q34 kV_q34 dc_q34 pm_q34 cd_q34 ct_q34:Value} (a_q34:PySem.W.nsIn K mainGlobals "is_tie" = some (some (.ref f_q34))) (l_q34:K.lookup f_q34 = some ⟨oc_q34,od_q34,.func (PySem.W.fnOf "is_tie" "is_tie" (aD iZ) (aB iZ) (af iZ) .none kV_q34 dc_q34 pm_q34 an_q34 cd_q34 ct_q34),sl_q34⟩) (c_q34:PySem.W.codeIn K cd_q34 "is_tie" = true) (k_q34:PySem.W.keepIn K (.ref f_q34) = true)
    {od_q17 an_q17:Option Addr} {sl_q17:Array (Option Value)} {oc_q17 kV_q17 dc_q17 pm_q17 cd_q17 ct_q17:Value} (a_q17:PySem.W.nsIn K mainGlobals "are_ends" = some (some (.ref f_q17))) (l_q17:K.lookup f_q17 = some ⟨oc_q17,od_q17,.func (PySem.W.fnOf "are_ends" "are_ends" (aD jP) (aB jP) (af jP) .none kV_q17 dc_q17 pm_q17 an_q17 cd_q17 ct_q17),sl_q17⟩) (c_q17:PySem.W.codeIn K cd_q17 "are_ends" = true) (k_q17:PySem.W.keepIn K (.ref f_q17) = true)
    {od_q33 an_q33:Option Addr} {sl_q33:Array (Option Value)} {oc_q33 kV_q33 dc_q33 pm_q33 cd_q33 ct_q33:Value} (a_q33:PySem.W.nsIn K mainGlobals "is_ask" = some (some (.ref f_q33))) (l_q33:K.lookup f_q33 = some ⟨oc_q33,od_q33,.func (PySem.W.fnOf "is_ask" "is_ask" (aD iH) (aB iH) (af iH) .none kV_q33 dc_q33 pm_q33 an_q33 cd_q33 ct_q33),sl_q33⟩) (c_q33:PySem.W.codeIn K cd_q33 "is_ask" = true) (k_q33:PySem.W.keepIn K (.ref f_q33) = true)
    {od_q2 an_q2:Option Addr} {sl_q2:Array (Option Value)} {oc_q2 kV_q2 dc_q2 pm_q2 cd_q2 ct_q2:Value} (a_q2:PySem.W.nsIn K mainGlobals "look_at_asks" = some (some (.ref f_q2))) (l_q2:K.lookup f_q2 = some ⟨oc_q2,od_q2,.func (PySem.W.fnOf "look_at_asks" "look_at_asks" (aD o3) (aB o3) (af o3) .none kV_q2 dc_q2 pm_q2 an_q2 cd_q2 ct_q2),sl_q2⟩) (c_q2:PySem.W.codeIn K cd_q2 "look_at_asks" = true) (k_q2:PySem.W.keepIn K (.ref f_q2) = true)
    {od_q3 an_q3:Option Addr} {sl_q3:Array (Option Value)} {oc_q3 kV_q3 dc_q3 pm_q3 cd_q3 ct_q3:Value} (a_q3:PySem.W.nsIn K mainGlobals "look_at_ends" = some (some (.ref f_q3))) (l_q3:K.lookup f_q3 = some ⟨oc_q3,od_q3,.func (PySem.W.fnOf "look_at_ends" "look_at_ends" (aD oP) (aB oP) (af oP) .none kV_q3 dc_q3 pm_q3 an_q3 cd_q3 ct_q3),sl_q3⟩) (c_q3:PySem.W.codeIn K cd_q3 "look_at_ends" = true) (k_q3:PySem.W.keepIn K (.ref f_q3) = true)
    {od_q40 an_q40:Option Addr} {sl_q40:Array (Option Value)} {oc_q40 kV_q40 dc_q40 pm_q40 cd_q40 ct_q40:Value} (a_q40:PySem.W.nsIn K mainGlobals "climb" = some (some (.ref f_q40))) (l_q40:K.lookup f_q40 = some ⟨oc_q40,od_q40,.func (PySem.W.fnOf "climb" "climb" (aD jK) (aB jK) (af jK) .none kV_q40 dc_q40 pm_q40 an_q40 cd_q40 ct_q40),sl_q40⟩) (c_q40:PySem.W.codeIn K cd_q40 "climb" = true) (k_q40:PySem.W.keepIn K (.ref f_q40) = true)
    {od_q7 an_q7:Option Addr} {sl_q7:Array (Option Value)} {oc_q7 kV_q7 dc_q7 pm_q7 cd_q7 ct_q7:Value} (a_q7:PySem.W.nsIn K mainGlobals "way_between" = some (some (.ref f_q7))) (l_q7:K.lookup f_q7 = some ⟨oc_q7,od_q7,.func (PySem.W.fnOf "way_between" "way_between" (aD oJ) (aB oJ) (af oJ) .none kV_q7 dc_q7 pm_q7 an_q7 cd_q7 ct_q7),sl_q7⟩) (c_q7:PySem.W.codeIn K cd_q7 "way_between" = true) (k_q7:PySem.W.keepIn K (.ref f_q7) = true)
    {od_q39 an_q39:Option Addr} {sl_q39:Array (Option Value)} {oc_q39 kV_q39 dc_q39 pm_q39 cd_q39 ct_q39:Value} (a_q39:PySem.W.nsIn K mainGlobals "way_of" = some (some (.ref f_q39))) (l_q39:K.lookup f_q39 = some ⟨oc_q39,od_q39,.func (PySem.W.fnOf "way_of" "way_of" (aD jz) (aB jz) (af jz) .none kV_q39 dc_q39 pm_q39 an_q39 cd_q39 ct_q39),sl_q39⟩) (c_q39:PySem.W.codeIn K cd_q39 "way_of" = true) (k_q39:PySem.W.keepIn K (.ref f_q39) = true)
    {od_q8 an_q8:Option Addr} {sl_q8:Array (Option Value)} {oc_q8 kV_q8 dc_q8 pm_q8 cd_q8 ct_q8:Value} (a_q8:PySem.W.nsIn K mainGlobals "is_beneath" = some (some (.ref f_q8))) (l_q8:K.lookup f_q8 = some ⟨oc_q8,od_q8,.func (PySem.W.fnOf "is_beneath" "is_beneath" (aD pf) (aB pf) (af pf) .none kV_q8 dc_q8 pm_q8 an_q8 cd_q8 ct_q8),sl_q8⟩) (c_q8:PySem.W.codeIn K cd_q8 "is_beneath" = true) (k_q8:PySem.W.keepIn K (.ref f_q8) = true)
    {od_q11 an_q11:Option Addr} {sl_q11:Array (Option Value)} {oc_q11 kV_q11 dc_q11 pm_q11 cd_q11 ct_q11:Value} (a_q11:PySem.W.nsIn K mainGlobals "are_apart" = some (some (.ref f_q11))) (l_q11:K.lookup f_q11 = some ⟨oc_q11,od_q11,.func (PySem.W.fnOf "are_apart" "are_apart" (aD jG) (aB jG) (af jG) .none kV_q11 dc_q11 pm_q11 an_q11 cd_q11 ct_q11),sl_q11⟩) (c_q11:PySem.W.codeIn K cd_q11 "are_apart" = true) (k_q11:PySem.W.keepIn K (.ref f_q11) = true)
    {od_q23 an_q23:Option Addr} {sl_q23:Array (Option Value)} {oc_q23 kV_q23 dc_q23 pm_q23 cd_q23 ct_q23:Value} (a_q23:PySem.W.nsIn K mainGlobals "links_of" = some (some (.ref f_q23))) (l_q23:K.lookup f_q23 = some ⟨oc_q23,od_q23,.func (PySem.W.fnOf "links_of" "links_of" (aD iP) (aB iP) (af iP) .none kV_q23 dc_q23 pm_q23 an_q23 cd_q23 ct_q23),sl_q23⟩) (c_q23:PySem.W.codeIn K cd_q23 "links_of" = true) (k_q23:PySem.W.keepIn K (.ref f_q23) = true)
    {od_q10 an_q10:Option Addr} {sl_q10:Array (Option Value)} {oc_q10 kV_q10 dc_q10 pm_q10 cd_q10 ct_q10:Value} (a_q10:PySem.W.nsIn K mainGlobals "reach_from" = some (some (.ref f_q10))) (l_q10:K.lookup f_q10 = some ⟨oc_q10,od_q10,.func (PySem.W.fnOf "reach_from" "reach_from" (aD ju) (aB ju) (af ju) .none kV_q10 dc_q10 pm_q10 an_q10 cd_q10 ct_q10),sl_q10⟩) (c_q10:PySem.W.codeIn K cd_q10 "reach_from" = true) (k_q10:PySem.W.keepIn K (.ref f_q10) = true)
    {od_q15 an_q15:Option Addr} {sl_q15:Array (Option Value)} {oc_q15 kV_q15 dc_q15 pm_q15 cd_q15 ct_q15:Value} (a_q15:PySem.W.nsIn K mainGlobals "path_back" = some (some (.ref f_q15))) (l_q15:K.lookup f_q15 = some ⟨oc_q15,od_q15,.func (PySem.W.fnOf "path_back" "path_back" (aD i6) (aB i6) (af i6) .none kV_q15 dc_q15 pm_q15 an_q15 cd_q15 ct_q15),sl_q15⟩) (c_q15:PySem.W.codeIn K cd_q15 "path_back" = true) (k_q15:PySem.W.keepIn K (.ref f_q15) = true)
    {od_q30 an_q30:Option Addr} {sl_q30:Array (Option Value)} {oc_q30 kV_q30 dc_q30 pm_q30 cd_q30 ct_q30:Value} (a_q30:PySem.W.nsIn K mainGlobals "text_of" = some (some (.ref f_q30))) (l_q30:K.lookup f_q30 = some ⟨oc_q30,od_q30,.func (PySem.W.fnOf "text_of" "text_of" (aD jB) (aB jB) (af jB) .none kV_q30 dc_q30 pm_q30 an_q30 cd_q30 ct_q30),sl_q30⟩) (c_q30:PySem.W.codeIn K cd_q30 "text_of" = true) (k_q30:PySem.W.keepIn K (.ref f_q30) = true)
    {od_q5 an_q5:Option Addr} {sl_q5:Array (Option Value)} {oc_q5 kV_q5 dc_q5 pm_q5 cd_q5 ct_q5:Value} (a_q5:PySem.W.nsIn K mainGlobals "ring_through" = some (some (.ref f_q5))) (l_q5:K.lookup f_q5 = some ⟨oc_q5,od_q5,.func (PySem.W.fnOf "ring_through" "ring_through" (aD oU) (aB oU) (af oU) .none kV_q5 dc_q5 pm_q5 an_q5 cd_q5 ct_q5),sl_q5⟩) (c_q5:PySem.W.codeIn K cd_q5 "ring_through" = true) (k_q5:PySem.W.keepIn K (.ref f_q5) = true)
    {od_q6 an_q6:Option Addr} {sl_q6:Array (Option Value)} {oc_q6 kV_q6 dc_q6 pm_q6 cd_q6 ct_q6:Value} (a_q6:PySem.W.nsIn K mainGlobals "first_clash" = some (some (.ref f_q6))) (l_q6:K.lookup f_q6 = some ⟨oc_q6,od_q6,.func (PySem.W.fnOf "first_clash" "first_clash" (aD o7) (aB o7) (af o7) .none kV_q6 dc_q6 pm_q6 an_q6 cd_q6 ct_q6),sl_q6⟩) (c_q6:PySem.W.codeIn K cd_q6 "first_clash" = true) (k_q6:PySem.W.keepIn K (.ref f_q6) = true)
    {od_q29 an_q29:Option Addr} {sl_q29:Array (Option Value)} {oc_q29 kV_q29 dc_q29 pm_q29 cd_q29 ct_q29:Value} (a_q29:PySem.W.nsIn K mainGlobals "pointed" = some (some (.ref f_q29))) (l_q29:K.lookup f_q29 = some ⟨oc_q29,od_q29,.func (PySem.W.fnOf "pointed" "pointed" (aD iX) (aB iX) (af iX) .none kV_q29 dc_q29 pm_q29 an_q29 cd_q29 ct_q29),sl_q29⟩) (c_q29:PySem.W.codeIn K cd_q29 "pointed" = true) (k_q29:PySem.W.keepIn K (.ref f_q29) = true)
    {od_q35 an_q35:Option Addr} {sl_q35:Array (Option Value)} {oc_q35 kV_q35 dc_q35 pm_q35 cd_q35 ct_q35:Value} (a_q35:PySem.W.nsIn K mainGlobals "_law_cell" = some (some (.ref f_q35))) (l_q35:K.lookup f_q35 = some ⟨oc_q35,od_q35,.func (PySem.W.fnOf "_law_cell" "_law_cell" (aD iV) (aB iV) (af iV) .none kV_q35 dc_q35 pm_q35 an_q35 cd_q35 ct_q35),sl_q35⟩) (c_q35:PySem.W.codeIn K cd_q35 "_law_cell" = true) (k_q35:PySem.W.keepIn K (.ref f_q35) = true)
    {od_q20 an_q20:Option Addr} {sl_q20:Array (Option Value)} {oc_q20 kV_q20 dc_q20 pm_q20 cd_q20 ct_q20:Value} (a_q20:PySem.W.nsIn K mainGlobals "_law_source" = some (some (.ref f_q20))) (l_q20:K.lookup f_q20 = some ⟨oc_q20,od_q20,.func (PySem.W.fnOf "_law_source" "_law_source" (aD jN) (aB jN) (af jN) .none kV_q20 dc_q20 pm_q20 an_q20 cd_q20 ct_q20),sl_q20⟩) (c_q20:PySem.W.codeIn K cd_q20 "_law_source" = true) (k_q20:PySem.W.keepIn K (.ref f_q20) = true)
    {od_q36 an_q36:Option Addr} {sl_q36:Array (Option Value)} {oc_q36 kV_q36 dc_q36 pm_q36 cd_q36 ct_q36:Value} (a_q36:PySem.W.nsIn K mainGlobals "_law_draw" = some (some (.ref f_q36))) (l_q36:K.lookup f_q36 = some ⟨oc_q36,od_q36,.func (PySem.W.fnOf "_law_draw" "_law_draw" (aD jM) (aB jM) (af jM) .none kV_q36 dc_q36 pm_q36 an_q36 cd_q36 ct_q36),sl_q36⟩) (c_q36:PySem.W.codeIn K cd_q36 "_law_draw" = true) (k_q36:PySem.W.keepIn K (.ref f_q36) = true)
    {od_q38 an_q38:Option Addr} {sl_q38:Array (Option Value)} {oc_q38 kV_q38 dc_q38 pm_q38 cd_q38 ct_q38:Value} (a_q38:PySem.W.nsIn K mainGlobals "_law_tree" = some (some (.ref f_q38))) (l_q38:K.lookup f_q38 = some ⟨oc_q38,od_q38,.func (PySem.W.fnOf "_law_tree" "_law_tree" (aD jq) (aB jq) (af jq) .none kV_q38 dc_q38 pm_q38 an_q38 cd_q38 ct_q38),sl_q38⟩) (c_q38:PySem.W.codeIn K cd_q38 "_law_tree" = true) (k_q38:PySem.W.keepIn K (.ref f_q38) = true)
    {od_q42 an_q42:Option Addr} {sl_q42:Array (Option Value)} {oc_q42 kV_q42 dc_q42 pm_q42 cd_q42 ct_q42:Value} (a_q42:PySem.W.nsIn K mainGlobals "_law_way" = some (some (.ref f_q42))) (l_q42:K.lookup f_q42 = some ⟨oc_q42,od_q42,.func (PySem.W.fnOf "_law_way" "_law_way" (aD jc) (aB jc) (af jc) .none kV_q42 dc_q42 pm_q42 an_q42 cd_q42 ct_q42),sl_q42⟩) (c_q42:PySem.W.codeIn K cd_q42 "_law_way" = true) (k_q42:PySem.W.keepIn K (.ref f_q42) = true)
    {od_q41 an_q41:Option Addr} {sl_q41:Array (Option Value)} {oc_q41 kV_q41 dc_q41 pm_q41 cd_q41 ct_q41:Value} (a_q41:PySem.W.nsIn K mainGlobals "_law_ask" = some (some (.ref f_q41))) (l_q41:K.lookup f_q41 = some ⟨oc_q41,od_q41,.func (PySem.W.fnOf "_law_ask" "_law_ask" (aD i4) (aB i4) (af i4) .none kV_q41 dc_q41 pm_q41 an_q41 cd_q41 ct_q41),sl_q41⟩) (c_q41:PySem.W.codeIn K cd_q41 "_law_ask" = true) (k_q41:PySem.W.keepIn K (.ref f_q41) = true)
    {od_q28 an_q28:Option Addr} {sl_q28:Array (Option Value)} {oc_q28 kV_q28 dc_q28 pm_q28 cd_q28 ct_q28:Value} (a_q28:PySem.W.nsIn K mainGlobals "_law_world" = some (some (.ref f_q28))) (l_q28:K.lookup f_q28 = some ⟨oc_q28,od_q28,.func (PySem.W.fnOf "_law_world" "_law_world" (aD iR) (aB iR) (af iR) .none kV_q28 dc_q28 pm_q28 an_q28 cd_q28 ct_q28),sl_q28⟩) (c_q28:PySem.W.codeIn K cd_q28 "_law_world" = true) (k_q28:PySem.W.keepIn K (.ref f_q28) = true)
    {od_q12 an_q12:Option Addr} {sl_q12:Array (Option Value)} {oc_q12 kV_q12 dc_q12 pm_q12 cd_q12 ct_q12:Value} (a_q12:PySem.W.nsIn K mainGlobals "_law_beneath" = some (some (.ref f_q12))) (l_q12:K.lookup f_q12 = some ⟨oc_q12,od_q12,.func (PySem.W.fnOf "_law_beneath" "_law_beneath" (aD i9) (aB i9) (af i9) .none kV_q12 dc_q12 pm_q12 an_q12 cd_q12 ct_q12),sl_q12⟩) (c_q12:PySem.W.codeIn K cd_q12 "_law_beneath" = true) (k_q12:PySem.W.keepIn K (.ref f_q12) = true)
    {od_q22 an_q22:Option Addr} {sl_q22:Array (Option Value)} {oc_q22 kV_q22 dc_q22 pm_q22 cd_q22 ct_q22:Value} (a_q22:PySem.W.nsIn K mainGlobals "_law_unlike" = some (some (.ref f_q22))) (l_q22:K.lookup f_q22 = some ⟨oc_q22,od_q22,.func (PySem.W.fnOf "_law_unlike" "_law_unlike" (aD jD) (aB jD) (af jD) .none kV_q22 dc_q22 pm_q22 an_q22 cd_q22 ct_q22),sl_q22⟩) (c_q22:PySem.W.codeIn K cd_q22 "_law_unlike" = true) (k_q22:PySem.W.keepIn K (.ref f_q22) = true)
    {od_q26 an_q26:Option Addr} {sl_q26:Array (Option Value)} {oc_q26 kV_q26 dc_q26 pm_q26 cd_q26 ct_q26:Value} (a_q26:PySem.W.nsIn K mainGlobals "_law_sides" = some (some (.ref f_q26))) (l_q26:K.lookup f_q26 = some ⟨oc_q26,od_q26,.func (PySem.W.fnOf "_law_sides" "_law_sides" (aD jJ) (aB jJ) (af jJ) .none kV_q26 dc_q26 pm_q26 an_q26 cd_q26 ct_q26),sl_q26⟩) (c_q26:PySem.W.codeIn K cd_q26 "_law_sides" = true) (k_q26:PySem.W.keepIn K (.ref f_q26) = true)
    {od_q37 an_q37:Option Addr} {sl_q37:Array (Option Value)} {oc_q37 kV_q37 dc_q37 pm_q37 cd_q37 ct_q37:Value} (a_q37:PySem.W.nsIn K mainGlobals "_law_runs" = some (some (.ref f_q37))) (l_q37:K.lookup f_q37 = some ⟨oc_q37,od_q37,.func (PySem.W.fnOf "_law_runs" "_law_runs" (aD iM) (aB iM) (af iM) .none kV_q37 dc_q37 pm_q37 an_q37 cd_q37 ct_q37),sl_q37⟩) (c_q37:PySem.W.codeIn K cd_q37 "_law_runs" = true) (k_q37:PySem.W.keepIn K (.ref f_q37) = true)
    {od_q1 an_q1:Option Addr} {sl_q1:Array (Option Value)} {oc_q1 kV_q1 dc_q1 pm_q1 cd_q1 ct_q1:Value} (a_q1:PySem.W.nsIn K mainGlobals "_law_is_pointing" = some (some (.ref f_q1))) (l_q1:K.lookup f_q1 = some ⟨oc_q1,od_q1,.func (PySem.W.fnOf "_law_is_pointing" "_law_is_pointing" (aD pr) (aB pr) (af pr) .none kV_q1 dc_q1 pm_q1 an_q1 cd_q1 ct_q1),sl_q1⟩) (c_q1:PySem.W.codeIn K cd_q1 "_law_is_pointing" = true) (k_q1:PySem.W.keepIn K (.ref f_q1) = true)
    {od_q21 an_q21:Option Addr} {sl_q21:Array (Option Value)} {oc_q21 kV_q21 dc_q21 pm_q21 cd_q21 ct_q21:Value} (a_q21:PySem.W.nsIn K mainGlobals "_law_spread" = some (some (.ref f_q21))) (l_q21:K.lookup f_q21 = some ⟨oc_q21,od_q21,.func (PySem.W.fnOf "_law_spread" "_law_spread" (aD iQ) (aB iQ) (af iQ) .none kV_q21 dc_q21 pm_q21 an_q21 cd_q21 ct_q21),sl_q21⟩) (c_q21:PySem.W.codeIn K cd_q21 "_law_spread" = true) (k_q21:PySem.W.keepIn K (.ref f_q21) = true)
    {od_q27 an_q27:Option Addr} {sl_q27:Array (Option Value)} {oc_q27 kV_q27 dc_q27 pm_q27 cd_q27 ct_q27:Value} (a_q27:PySem.W.nsIn K mainGlobals "_law_whole" = some (some (.ref f_q27))) (l_q27:K.lookup f_q27 = some ⟨oc_q27,od_q27,.func (PySem.W.fnOf "_law_whole" "_law_whole" (aD jL) (aB jL) (af jL) .none kV_q27 dc_q27 pm_q27 an_q27 cd_q27 ct_q27),sl_q27⟩) (c_q27:PySem.W.codeIn K cd_q27 "_law_whole" = true) (k_q27:PySem.W.keepIn K (.ref f_q27) = true)
    {od_q13 an_q13:Option Addr} {sl_q13:Array (Option Value)} {oc_q13 kV_q13 dc_q13 pm_q13 cd_q13 ct_q13:Value} (a_q13:PySem.W.nsIn K mainGlobals "_law_is_ring" = some (some (.ref f_q13))) (l_q13:K.lookup f_q13 = some ⟨oc_q13,od_q13,.func (PySem.W.fnOf "_law_is_ring" "_law_is_ring" (aD je) (aB je) (af je) .none kV_q13 dc_q13 pm_q13 an_q13 cd_q13 ct_q13),sl_q13⟩) (c_q13:PySem.W.codeIn K cd_q13 "_law_is_ring" = true) (k_q13:PySem.W.keepIn K (.ref f_q13) = true)
    {od_q14 an_q14:Option Addr} {sl_q14:Array (Option Value)} {oc_q14 kV_q14 dc_q14 pm_q14 cd_q14 ct_q14:Value} (a_q14:PySem.W.nsIn K mainGlobals "_law_planted" = some (some (.ref f_q14))) (l_q14:K.lookup f_q14 = some ⟨oc_q14,od_q14,.func (PySem.W.fnOf "_law_planted" "_law_planted" (aD iL) (aB iL) (af iL) .none kV_q14 dc_q14 pm_q14 an_q14 cd_q14 ct_q14),sl_q14⟩) (c_q14:PySem.W.codeIn K cd_q14 "_law_planted" = true) (k_q14:PySem.W.keepIn K (.ref f_q14) = true)
    {od_q25 an_q25:Option Addr} {sl_q25:Array (Option Value)} {oc_q25 kV_q25 dc_q25 pm_q25 cd_q25 ct_q25:Value} (a_q25:PySem.W.nsIn K mainGlobals "_law_right" = some (some (.ref f_q25))) (l_q25:K.lookup f_q25 = some ⟨oc_q25,od_q25,.func (PySem.W.fnOf "_law_right" "_law_right" (aD jt) (aB jt) (af jt) .none kV_q25 dc_q25 pm_q25 an_q25 cd_q25 ct_q25),sl_q25⟩) (c_q25:PySem.W.codeIn K cd_q25 "_law_right" = true) (k_q25:PySem.W.keepIn K (.ref f_q25) = true)
    {od_law an_law:Option Addr} {sl_law:Array (Option Value)} {oc_law kV_law dc_law pm_law cd_law ct_law:Value} (a_law:PySem.W.nsIn K mainGlobals "law" = some (some (.ref f_law))) (l_law:K.lookup f_law = some ⟨oc_law,od_law,.func (PySem.W.fnOf "law" "law" (aD fu) (aB fu) (af fu) .none kV_law dc_law pm_law an_law cd_law ct_law),sl_law⟩) (c_law:PySem.W.codeIn K cd_law "law" = true) (k_law:PySem.W.keepIn K (.ref f_law) = true)
    {t_MOST_TIES:Tok} (c_MOST_TIES:PySem.W.nsIn K mainGlobals "MOST_TIES" = some (some (.int 23 t_MOST_TIES)))
    {t_MOST_ROOM:Tok} (c_MOST_ROOM:PySem.W.nsIn K mainGlobals "MOST_ROOM" = some (some (.int 1000000 t_MOST_ROOM)))
    {t_MOST_ASKS:Tok} (c_MOST_ASKS:PySem.W.nsIn K mainGlobals "MOST_ASKS" = some (some (.int 30 t_MOST_ASKS)))
    {t_MOST_SIZE:Tok} (c_MOST_SIZE:PySem.W.nsIn K mainGlobals "MOST_SIZE" = some (some (.int 1000000 t_MOST_SIZE)))
    {t_MOST_WORTH:Tok} (c_MOST_WORTH:PySem.W.nsIn K mainGlobals "MOST_WORTH" = some (some (.int 1000000000000 t_MOST_WORTH)))
    (z_abs:PySem.W.nsIn K mainGlobals "abs" = some none)
    (z_bool:PySem.W.nsIn K mainGlobals "bool" = some none)
    (z_enumerate:PySem.W.nsIn K mainGlobals "enumerate" = some none)
    (z_int:PySem.W.nsIn K mainGlobals "int" = some none)
    (z_isinstance:PySem.W.nsIn K mainGlobals "isinstance" = some none)
    (z_len:PySem.W.nsIn K mainGlobals "len" = some none)
    (z_list:PySem.W.nsIn K mainGlobals "list" = some none)
    (z_max:PySem.W.nsIn K mainGlobals "max" = some none)
    (z_min:PySem.W.nsIn K mainGlobals "min" = some none)
    (z_range:PySem.W.nsIn K mainGlobals "range" = some none)
    (z_reversed:PySem.W.nsIn K mainGlobals "reversed" = some none)
    (z_set:PySem.W.nsIn K mainGlobals "set" = some none)
    (z_sorted:PySem.W.nsIn K mainGlobals "sorted" = some none)
    (z_tuple:PySem.W.nsIn K mainGlobals "tuple" = some none)
    (z_zip:PySem.W.nsIn K mainGlobals "zip" = some none)
   :∃ fd:FuncData,(∀ (s:Shared) (v:Value),BindsTo s fd ⟨[v],[]⟩ [("_law_script",v)]) ∧ ∀ base:Heap,K.In base → base.Ns mainGlobals mg → FnOk l.prog w K mg base CX0 11 fa fd ["_law_script"] (nL K):=by
  have e:=hfa.symm.trans (PySem.W.mg_of X G a_law)
  cases e
  have F_q19:=aT (st:=iY) l_q19 c_q19 k_q19
  have b_q19:=F_q19.binds (ps:=["thing"]) fun _ _ _ _ _ _ us hl=>us1 (fun _=>rfl) us hl
  have F_q9:=aT (st:=oR) l_q9 c_q9 k_q9
  have b_q9:=F_q9.binds (ps:=["thing","least","most"]) fun _ _ _ _ _ _ us hl=>us3 (fun _ _ _=>rfl) us hl
  have F_q0:=aT (st:=o4) l_q0 c_q0 k_q0
  have b_q0:=F_q0.binds (ps:=["thing"]) fun _ _ _ _ _ _ us hl=>us1 (fun _=>rfl) us hl
  have F_q4:=aT (st:=ou) l_q4 c_q4 k_q4
  have b_q4:=F_q4.binds (ps:=["thing"]) fun _ _ _ _ _ _ us hl=>us1 (fun _=>rfl) us hl
  have F_q18:=aT (st:=jr) l_q18 c_q18 k_q18
  have b_q18:=F_q18.binds (ps:=["tree","thing"]) fun _ _ _ _ _ _ us hl=>us2 (fun _ _=>rfl) us hl
  have F_q34:=aT (st:=iZ) l_q34 c_q34 k_q34
  have b_q34:=F_q34.binds (ps:=["tree","thing"]) fun _ _ _ _ _ _ us hl=>us2 (fun _ _=>rfl) us hl
  have F_q17:=aT (st:=jP) l_q17 c_q17 k_q17
  have b_q17:=F_q17.binds (ps:=["tree","one","other"]) fun _ _ _ _ _ _ us hl=>us3 (fun _ _ _=>rfl) us hl
  have F_q33:=aT (st:=iH) l_q33 c_q33 k_q33
  have b_q33:=F_q33.binds (ps:=["tree","thing"]) fun _ _ _ _ _ _ us hl=>us2 (fun _ _=>rfl) us hl
  have F_q2:=aT (st:=o3) l_q2 c_q2 k_q2
  have b_q2:=F_q2.binds (ps:=["tree","thing"]) fun _ _ _ _ _ _ us hl=>us2 (fun _ _=>rfl) us hl
  have F_q3:=aT (st:=oP) l_q3 c_q3 k_q3
  have b_q3:=F_q3.binds (ps:=["tree","one","other"]) fun _ _ _ _ _ _ us hl=>us3 (fun _ _ _=>rfl) us hl
  have F_q40:=aT (st:=jK) l_q40 c_q40 k_q40
  have b_q40:=F_q40.binds (ps:=["tree","one","other"]) fun _ _ _ _ _ _ us hl=>us3 (fun _ _ _=>rfl) us hl
  have F_q7:=aT (st:=oJ) l_q7 c_q7 k_q7
  have b_q7:=F_q7.binds (ps:=["tree","one","other"]) fun _ _ _ _ _ _ us hl=>us3 (fun _ _ _=>rfl) us hl
  have F_q39:=aT (st:=jz) l_q39 c_q39 k_q39
  have b_q39:=F_q39.binds (ps:=["tree","ask"]) fun _ _ _ _ _ _ us hl=>us2 (fun _ _=>rfl) us hl
  have F_q8:=aT (st:=pf) l_q8 c_q8 k_q8
  have b_q8:=F_q8.binds (ps:=["tree","one","other"]) fun _ _ _ _ _ _ us hl=>us3 (fun _ _ _=>rfl) us hl
  have F_q11:=aT (st:=jG) l_q11 c_q11 k_q11
  have b_q11:=F_q11.binds (ps:=["tree","one","other"]) fun _ _ _ _ _ _ us hl=>us3 (fun _ _ _=>rfl) us hl
  have F_q23:=aT (st:=iP) l_q23 c_q23 k_q23
  have b_q23:=F_q23.binds (ps:=["tree","asks"]) fun _ _ _ _ _ _ us hl=>us2 (fun _ _=>rfl) us hl
  have F_q10:=aT (st:=ju) l_q10 c_q10 k_q10
  have b_q10:=F_q10.binds (ps:=["first","links","came"]) fun _ _ _ _ _ _ us hl=>us3 (fun _ _ _=>rfl) us hl
  have F_q15:=aT (st:=i6) l_q15 c_q15 k_q15
  have b_q15:=F_q15.binds (ps:=["came","tie"]) fun _ _ _ _ _ _ us hl=>us2 (fun _ _=>rfl) us hl
  have F_q30:=aT (st:=jB) l_q30 c_q30 k_q30
  have b_q30:=F_q30.binds (ps:=["tree","came","tie"]) fun _ _ _ _ _ _ us hl=>us3 (fun _ _ _=>rfl) us hl
  have F_q5:=aT (st:=oU) l_q5 c_q5 k_q5
  have b_q5:=F_q5.binds (ps:=["came","one","other","closing"]) fun _ _ _ _ _ _ us hl=>us4 (fun _ _ _ _=>rfl) us hl
  have F_q6:=aT (st:=o7) l_q6 c_q6 k_q6
  have b_q6:=F_q6.binds (ps:=["tree","links","texts"]) fun _ _ _ _ _ _ us hl=>us3 (fun _ _ _=>rfl) us hl
  have F_q29:=aT (st:=iX) l_q29 c_q29 k_q29
  have b_q29:=F_q29.binds (ps:=["tree","asks"]) fun _ _ _ _ _ _ us hl=>us2 (fun _ _=>rfl) us hl
  have F_q35:=aT (st:=iV) l_q35 c_q35 k_q35
  have b_q35:=F_q35.binds (ps:=["_law_script","_law_k"]) fun _ _ _ _ _ _ us hl=>us2 (fun _ _=>rfl) us hl
  have F_q20:=aT (st:=jN) l_q20 c_q20 k_q20
  have b_q20:=F_q20.binds (ps:=["_law_cell_here","_law_k"]) fun _ _ _ _ _ _ us hl=>us2 (fun _ _=>rfl) us hl
  have F_q36:=aT (st:=jM) l_q36 c_q36 k_q36
  have b_q36:=F_q36.binds (ps:=["_law_source_here","_law_many"]) fun _ _ _ _ _ _ us hl=>us2 (fun _ _=>rfl) us hl
  have F_q38:=aT (st:=jq) l_q38 c_q38 k_q38
  have b_q38:=F_q38.binds (ps:=["_law_source_here","_law_most"]) fun _ _ _ _ _ _ us hl=>us2 (fun _ _=>rfl) us hl
  have F_q42:=aT (st:=jc) l_q42 c_q42 k_q42
  have b_q42:=F_q42.binds (ps:=["_law_parents","_law_one","_law_other"]) fun _ _ _ _ _ _ us hl=>us3 (fun _ _ _=>rfl) us hl
  have F_q41:=aT (st:=i4) l_q41 c_q41 k_q41
  have b_q41:=F_q41.binds (ps:=["_law_source_here","_law_many","_law_sizes","_law_worths"]) fun _ _ _ _ _ _ us hl=>us4 (fun _ _ _ _=>rfl) us hl
  have F_q28:=aT (st:=iR) l_q28 c_q28 k_q28
  have b_q28:=F_q28.binds (ps:=["_law_script","_law_most"]) fun _ _ _ _ _ _ us hl=>us2 (fun _ _=>rfl) us hl
  have F_q12:=aT (st:=i9) l_q12 c_q12 k_q12
  have b_q12:=F_q12.binds (ps:=["_law_parents","_law_one","_law_other"]) fun _ _ _ _ _ _ us hl=>us3 (fun _ _ _=>rfl) us hl
  have F_q22:=aT (st:=jD) l_q22 c_q22 k_q22
  have b_q22:=F_q22.binds (ps:=["_law_parents","_law_one","_law_other"]) fun _ _ _ _ _ _ us hl=>us3 (fun _ _ _=>rfl) us hl
  have F_q26:=aT (st:=jJ) l_q26 c_q26 k_q26
  have b_q26:=F_q26.binds (ps:=["_law_parents","_law_one","_law_other"]) fun _ _ _ _ _ _ us hl=>us3 (fun _ _ _=>rfl) us hl
  have F_q37:=aT (st:=iM) l_q37 c_q37 k_q37
  have b_q37:=F_q37.binds (ps:=["_law_parents","_law_ask_here","_law_thing"]) fun _ _ _ _ _ _ us hl=>us3 (fun _ _ _=>rfl) us hl
  have F_q1:=aT (st:=pr) l_q1 c_q1 k_q1
  have b_q1:=F_q1.binds (ps:=["_law_tree_here","_law_asks","_law_thing"]) fun _ _ _ _ _ _ us hl=>us3 (fun _ _ _=>rfl) us hl
  have F_q21:=aT (st:=iQ) l_q21 c_q21 k_q21
  have b_q21:=F_q21.binds (ps:=["_law_tree_here","_law_asks"]) fun _ _ _ _ _ _ us hl=>us2 (fun _ _=>rfl) us hl
  have F_q27:=aT (st:=jL) l_q27 c_q27 k_q27
  have b_q27:=F_q27.binds (ps:=["_law_thing","_law_least","_law_most"]) fun _ _ _ _ _ _ us hl=>us3 (fun _ _ _=>rfl) us hl
  have F_q13:=aT (st:=je) l_q13 c_q13 k_q13
  have b_q13:=F_q13.binds (ps:=["_law_tree_here","_law_asks","_law_thing"]) fun _ _ _ _ _ _ us hl=>us3 (fun _ _ _=>rfl) us hl
  have F_q14:=aT (st:=iL) l_q14 c_q14 k_q14
  have b_q14:=F_q14.binds (ps:=["_law_tree_here","_law_source_here"]) fun _ _ _ _ _ _ us hl=>us2 (fun _ _=>rfl) us hl
  have F_q25:=aT (st:=jt) l_q25 c_q25 k_q25
  have b_q25:=F_q25.binds (ps:=["_law_tree_here","_law_asks"]) fun _ _ _ _ _ _ us hl=>us2 (fun _ _=>rfl) us hl
  have F_law:=aT (st:=fu) l_law c_law k_law
  have b_law:=F_law.binds (ps:=["_law_script"]) fun _ _ _ _ _ _ us hl=>us1 (fun _=>rfl) us hl
  have T:Txt K mg ⟨f_q19,_,f_q9,_,f_q0,_,f_q4,_,f_q18,_,f_q34,_,f_q17,_,f_q33,_,f_q2,_,f_q3,_,f_q40,_,f_q7,_,f_q39,_,f_q8,_,f_q11,_,f_q23,_,f_q10,_,f_q15,_,f_q30,_,f_q5,_,f_q6,_,f_q29,_,f_q35,_,f_q20,_,f_q36,_,f_q38,_,f_q42,_,f_q41,_,f_q28,_,f_q12,_,f_q22,_,f_q26,_,f_q37,_,f_q1,_,f_q21,_,f_q27,_,f_q13,_,f_q14,_,f_q25,_,fa,_⟩:=⟨F_q19,b_q19,k_q19,PySem.W.mg_of X G a_q19,F_q9,b_q9,k_q9,PySem.W.mg_of X G a_q9,F_q0,b_q0,k_q0,PySem.W.mg_of X G a_q0,F_q4,b_q4,k_q4,PySem.W.mg_of X G a_q4,F_q18,b_q18,k_q18,PySem.W.mg_of X G a_q18,F_q34,b_q34,k_q34,PySem.W.mg_of X G a_q34,F_q17,b_q17,k_q17,PySem.W.mg_of X G a_q17,F_q33,b_q33,k_q33,PySem.W.mg_of X G a_q33,F_q2,b_q2,k_q2,PySem.W.mg_of X G a_q2,F_q3,b_q3,k_q3,PySem.W.mg_of X G a_q3,F_q40,b_q40,k_q40,PySem.W.mg_of X G a_q40,F_q7,b_q7,k_q7,PySem.W.mg_of X G a_q7,F_q39,b_q39,k_q39,PySem.W.mg_of X G a_q39,F_q8,b_q8,k_q8,PySem.W.mg_of X G a_q8,F_q11,b_q11,k_q11,PySem.W.mg_of X G a_q11,F_q23,b_q23,k_q23,PySem.W.mg_of X G a_q23,F_q10,b_q10,k_q10,PySem.W.mg_of X G a_q10,F_q15,b_q15,k_q15,PySem.W.mg_of X G a_q15,F_q30,b_q30,k_q30,PySem.W.mg_of X G a_q30,F_q5,b_q5,k_q5,PySem.W.mg_of X G a_q5,F_q6,b_q6,k_q6,PySem.W.mg_of X G a_q6,F_q29,b_q29,k_q29,PySem.W.mg_of X G a_q29,F_q35,b_q35,k_q35,PySem.W.mg_of X G a_q35,F_q20,b_q20,k_q20,PySem.W.mg_of X G a_q20,F_q36,b_q36,k_q36,PySem.W.mg_of X G a_q36,F_q38,b_q38,k_q38,PySem.W.mg_of X G a_q38,F_q42,b_q42,k_q42,PySem.W.mg_of X G a_q42,F_q41,b_q41,k_q41,PySem.W.mg_of X G a_q41,F_q28,b_q28,k_q28,PySem.W.mg_of X G a_q28,F_q12,b_q12,k_q12,PySem.W.mg_of X G a_q12,F_q22,b_q22,k_q22,PySem.W.mg_of X G a_q22,F_q26,b_q26,k_q26,PySem.W.mg_of X G a_q26,F_q37,b_q37,k_q37,PySem.W.mg_of X G a_q37,F_q1,b_q1,k_q1,PySem.W.mg_of X G a_q1,F_q21,b_q21,k_q21,PySem.W.mg_of X G a_q21,F_q27,b_q27,k_q27,PySem.W.mg_of X G a_q27,F_q13,b_q13,k_q13,PySem.W.mg_of X G a_q13,F_q14,b_q14,k_q14,PySem.W.mg_of X G a_q14,F_q25,b_q25,k_q25,PySem.W.mg_of X G a_q25,F_law,b_law,k_law,PySem.W.mg_of X G a_law,PySem.W.mg_none_of X G z_abs,PySem.W.mg_none_of X G z_bool,PySem.W.mg_none_of X G z_enumerate,PySem.W.mg_none_of X G z_int,PySem.W.mg_none_of X G z_isinstance,PySem.W.mg_none_of X G z_len,PySem.W.mg_none_of X G z_list,PySem.W.mg_none_of X G z_max,PySem.W.mg_none_of X G z_min,PySem.W.mg_none_of X G z_range,PySem.W.mg_none_of X G z_reversed,PySem.W.mg_none_of X G z_set,PySem.W.mg_none_of X G z_sorted,PySem.W.mg_none_of X G z_tuple,PySem.W.mg_none_of X G z_zip,⟨_,PySem.W.mg_of X G c_MOST_TIES⟩,⟨_,PySem.W.mg_of X G c_MOST_ROOM⟩,⟨_,PySem.W.mg_of X G c_MOST_ASKS⟩,⟨_,PySem.W.mg_of X G c_MOST_SIZE⟩,⟨_,PySem.W.mg_of X G c_MOST_WORTH⟩⟩
  exact ⟨PySem.W.fnOf "law" "law" (aD fu) (aB fu) (af fu) .none kV_law dc_law pm_law an_law cd_law ct_law,fun s v=>.of_eq rfl,fun base _ _=>(vA T).imp fun _ _ _ _ h=>rL h⟩
theorem walk {l:PySem.W.OpenLaw} {q:Program} {loose:List Str} {XP:(Str → Option Value) → Heap → Prop} {YP:World → Heap → Prop} {d:DefRec} {K:Params → PySem.W.Frag} (hn:l.most = some 63) (hdf:d.params.defaults = [])
    (hY:∀ (w:World) (h:Heap),YP w h → (K w.params).In h)
    (F:∀ (w:World) (mg:Str → Option Value) (fa:Addr) (h:Heap),(K w.params).In h → h.Ns mainGlobals mg → mg d.name = some (.ref fa) →
      ∃ fd:FuncData,(∀ (s:Shared) (u:Value),BindsTo s fd ⟨[u],[]⟩ [("_law_script",u)]) ∧ ∀ base:Heap,(K w.params).In base → base.Ns mainGlobals mg → FnOk l.prog w (K w.params) mg base CX0 11 fa fd ["_law_script"] (nL (K w.params))) :
    PySem.W.WalkO q loose XP YP l.row.toRowW d [] (fun f vs=>PySem.call f vs) :=
  L2.sY (n:=63) (k:=11) (x:="_law_script") (CX:=fun _=>CX0) (sp:=fun w=>nL (K w.params)) hn (by decide) hdf ⟨rfl,by decide,by decide,rfl⟩ hY F (fun _ _ a ns hl hO hS=>⟨a,ns,rfl,hO,hS,hl,fun _=>rfl⟩) fun _ _ _ _ _ z=>z
end K47
open PySem PySem.W PyProof.Rows
set_option maxRecDepth 100000 in
theorem PySem.Challenge.cw_treeasks_k47_pointed_told_holds : PySem.Challenge.rw_treeasks_k47_pointed_told.Holds := by
  w_on; o_law; k_head; (case hw=>w_witness2)
  k_fill
  refine K47.walk (l:=PySem.Challenge.rw_treeasks_k47_pointed_told) rfl rfl (fun w h Y=>PySem.W.kIn_of Y) ?F
  case F =>
    intro w mg fa h KX G hmg
    refine' K47.all_mk KX G hmg ?a_q19 ?l_q19 ?c_q19 ?k_q19 ?a_q9 ?l_q9 ?c_q9 ?k_q9 ?a_q0 ?l_q0 ?c_q0 ?k_q0 ?a_q4 ?l_q4 ?c_q4 ?k_q4 ?a_q18 ?l_q18 ?c_q18 ?k_q18 ?a_q34 ?l_q34 ?c_q34 ?k_q34 ?a_q17 ?l_q17 ?c_q17 ?k_q17 ?a_q33 ?l_q33 ?c_q33 ?k_q33 ?a_q2 ?l_q2 ?c_q2 ?k_q2 ?a_q3 ?l_q3 ?c_q3 ?k_q3 ?a_q40 ?l_q40 ?c_q40 ?k_q40 ?a_q7 ?l_q7 ?c_q7 ?k_q7 ?a_q39 ?l_q39 ?c_q39 ?k_q39 ?a_q8 ?l_q8 ?c_q8 ?k_q8 ?a_q11 ?l_q11 ?c_q11 ?k_q11 ?a_q23 ?l_q23 ?c_q23 ?k_q23 ?a_q10 ?l_q10 ?c_q10 ?k_q10 ?a_q15 ?l_q15 ?c_q15 ?k_q15 ?a_q30 ?l_q30 ?c_q30 ?k_q30 ?a_q5 ?l_q5 ?c_q5 ?k_q5 ?a_q6 ?l_q6 ?c_q6 ?k_q6 ?a_q29 ?l_q29 ?c_q29 ?k_q29 ?a_q35 ?l_q35 ?c_q35 ?k_q35 ?a_q20 ?l_q20 ?c_q20 ?k_q20 ?a_q36 ?l_q36 ?c_q36 ?k_q36 ?a_q38 ?l_q38 ?c_q38 ?k_q38 ?a_q42 ?l_q42 ?c_q42 ?k_q42 ?a_q41 ?l_q41 ?c_q41 ?k_q41 ?a_q28 ?l_q28 ?c_q28 ?k_q28 ?a_q12 ?l_q12 ?c_q12 ?k_q12 ?a_q22 ?l_q22 ?c_q22 ?k_q22 ?a_q26 ?l_q26 ?c_q26 ?k_q26 ?a_q37 ?l_q37 ?c_q37 ?k_q37 ?a_q1 ?l_q1 ?c_q1 ?k_q1 ?a_q21 ?l_q21 ?c_q21 ?k_q21 ?a_q27 ?l_q27 ?c_q27 ?k_q27 ?a_q13 ?l_q13 ?c_q13 ?k_q13 ?a_q14 ?l_q14 ?c_q14 ?k_q14 ?a_q25 ?l_q25 ?c_q25 ?k_q25 ?a_law ?l_law ?c_law ?k_law ?c_MOST_TIES ?c_MOST_ROOM ?c_MOST_ASKS ?c_MOST_SIZE ?c_MOST_WORTH ?z_abs ?z_bool ?z_enumerate ?z_int ?z_isinstance ?z_len ?z_list ?z_max ?z_min ?z_range ?z_reversed ?z_set ?z_sorted ?z_tuple ?z_zip
    (case a_q19=>k_is)
    (case l_q19=>k_is)
    (case c_q19=>k_is)
    (case k_q19=>k_is)
    (case a_q9=>k_is)
    (case l_q9=>k_is)
    (case c_q9=>k_is)
    (case k_q9=>k_is)
    (case a_q0=>k_is)
    (case l_q0=>k_is)
    (case c_q0=>k_is)
    (case k_q0=>k_is)
    (case a_q4=>k_is)
    (case l_q4=>k_is)
    (case c_q4=>k_is)
    (case k_q4=>k_is)
    (case a_q18=>k_is)
    (case l_q18=>k_is)
    (case c_q18=>k_is)
    (case k_q18=>k_is)
    (case a_q34=>k_is)
    (case l_q34=>k_is)
    (case c_q34=>k_is)
    (case k_q34=>k_is)
    (case a_q17=>k_is)
    (case l_q17=>k_is)
    (case c_q17=>k_is)
    (case k_q17=>k_is)
    (case a_q33=>k_is)
    (case l_q33=>k_is)
    (case c_q33=>k_is)
    (case k_q33=>k_is)
    (case a_q2=>k_is)
    (case l_q2=>k_is)
    (case c_q2=>k_is)
    (case k_q2=>k_is)
    (case a_q3=>k_is)
    (case l_q3=>k_is)
    (case c_q3=>k_is)
    (case k_q3=>k_is)
    (case a_q40=>k_is)
    (case l_q40=>k_is)
    (case c_q40=>k_is)
    (case k_q40=>k_is)
    (case a_q7=>k_is)
    (case l_q7=>k_is)
    (case c_q7=>k_is)
    (case k_q7=>k_is)
    (case a_q39=>k_is)
    (case l_q39=>k_is)
    (case c_q39=>k_is)
    (case k_q39=>k_is)
    (case a_q8=>k_is)
    (case l_q8=>k_is)
    (case c_q8=>k_is)
    (case k_q8=>k_is)
    (case a_q11=>k_is)
    (case l_q11=>k_is)
    (case c_q11=>k_is)
    (case k_q11=>k_is)
    (case a_q23=>k_is)
    (case l_q23=>k_is)
    (case c_q23=>k_is)
    (case k_q23=>k_is)
    (case a_q10=>k_is)
    (case l_q10=>k_is)
    (case c_q10=>k_is)
    (case k_q10=>k_is)
    (case a_q15=>k_is)
    (case l_q15=>k_is)
    (case c_q15=>k_is)
    (case k_q15=>k_is)
    (case a_q30=>k_is)
    (case l_q30=>k_is)
    (case c_q30=>k_is)
    (case k_q30=>k_is)
    (case a_q5=>k_is)
    (case l_q5=>k_is)
    (case c_q5=>k_is)
    (case k_q5=>k_is)
    (case a_q6=>k_is)
    (case l_q6=>k_is)
    (case c_q6=>k_is)
    (case k_q6=>k_is)
    (case a_q29=>k_is)
    (case l_q29=>k_is)
    (case c_q29=>k_is)
    (case k_q29=>k_is)
    (case a_q35=>k_is)
    (case l_q35=>k_is)
    (case c_q35=>k_is)
    (case k_q35=>k_is)
    (case a_q20=>k_is)
    (case l_q20=>k_is)
    (case c_q20=>k_is)
    (case k_q20=>k_is)
    (case a_q36=>k_is)
    (case l_q36=>k_is)
    (case c_q36=>k_is)
    (case k_q36=>k_is)
    (case a_q38=>k_is)
    (case l_q38=>k_is)
    (case c_q38=>k_is)
    (case k_q38=>k_is)
    (case a_q42=>k_is)
    (case l_q42=>k_is)
    (case c_q42=>k_is)
    (case k_q42=>k_is)
    (case a_q41=>k_is)
    (case l_q41=>k_is)
    (case c_q41=>k_is)
    (case k_q41=>k_is)
    (case a_q28=>k_is)
    (case l_q28=>k_is)
    (case c_q28=>k_is)
    (case k_q28=>k_is)
    (case a_q12=>k_is)
    (case l_q12=>k_is)
    (case c_q12=>k_is)
    (case k_q12=>k_is)
    (case a_q22=>k_is)
    (case l_q22=>k_is)
    (case c_q22=>k_is)
    (case k_q22=>k_is)
    (case a_q26=>k_is)
    (case l_q26=>k_is)
    (case c_q26=>k_is)
    (case k_q26=>k_is)
    (case a_q37=>k_is)
    (case l_q37=>k_is)
    (case c_q37=>k_is)
    (case k_q37=>k_is)
    (case a_q1=>k_is)
    (case l_q1=>k_is)
    (case c_q1=>k_is)
    (case k_q1=>k_is)
    (case a_q21=>k_is)
    (case l_q21=>k_is)
    (case c_q21=>k_is)
    (case k_q21=>k_is)
    (case a_q27=>k_is)
    (case l_q27=>k_is)
    (case c_q27=>k_is)
    (case k_q27=>k_is)
    (case a_q13=>k_is)
    (case l_q13=>k_is)
    (case c_q13=>k_is)
    (case k_q13=>k_is)
    (case a_q14=>k_is)
    (case l_q14=>k_is)
    (case c_q14=>k_is)
    (case k_q14=>k_is)
    (case a_q25=>k_is)
    (case l_q25=>k_is)
    (case c_q25=>k_is)
    (case k_q25=>k_is)
    (case a_law=>k_is)
    (case l_law=>k_is)
    (case c_law=>k_is)
    (case k_law=>k_is)
    (case c_MOST_TIES=>k_is)
    (case c_MOST_ROOM=>k_is)
    (case c_MOST_ASKS=>k_is)
    (case c_MOST_SIZE=>k_is)
    (case c_MOST_WORTH=>k_is)
    (case z_abs=>k_is)
    (case z_bool=>k_is)
    (case z_enumerate=>k_is)
    (case z_int=>k_is)
    (case z_isinstance=>k_is)
    (case z_len=>k_is)
    (case z_list=>k_is)
    (case z_max=>k_is)
    (case z_min=>k_is)
    (case z_range=>k_is)
    (case z_reversed=>k_is)
    (case z_set=>k_is)
    (case z_sorted=>k_is)
    (case z_tuple=>k_is)
    (case z_zip=>k_is)
end
