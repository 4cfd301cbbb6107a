"""Boxeffects: what a row of calls does to boxes of unknown contents."""
