"""Samelayout: a hash table whose layout depends only on its set of keys."""
