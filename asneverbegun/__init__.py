"""Asneverbegun: long works that are seen as done once, or as never begun."""
