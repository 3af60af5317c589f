"""Amounts as texts: read by habits, strictly, and printed in styles. Its function is amounttexts.desk.answers."""
