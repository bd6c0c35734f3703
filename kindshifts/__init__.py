"""Which ways of bracketing lead to which, where kinds let a block be shifted."""
