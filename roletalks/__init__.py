"""Roletalks: scripts of talks, the parts cut out of them, and casts that perform."""
