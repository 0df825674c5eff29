"""Treelore: trees kept, changed, asked, compared, drawn and sent."""
