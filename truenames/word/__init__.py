"""Words of letters that pass, and the vectors that tell them."""
