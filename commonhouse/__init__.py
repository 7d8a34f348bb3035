"""Commonhouse: houses of sums, their one form, their parts, and the ways between them."""
