"""Integer matrices of determinant 1, and the groups that permutations stand for."""
