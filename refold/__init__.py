"""Refold: pages that are folded at widths again and again."""
