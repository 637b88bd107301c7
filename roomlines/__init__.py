"""Machines whose rooms lie in lines, in the order of the words that lead to them."""
