"""Elenchus: a prover for first-order logic with equality."""
